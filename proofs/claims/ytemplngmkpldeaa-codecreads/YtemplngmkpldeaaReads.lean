/-
  'skylight/skylightlaw02.CodecReads' returns true for every input, and the input reads afterwards as it read before. Conditions: none.
-/
import Derived.Test.YtemplngmkpldeaaRows
import Derived.WalkKit
import Derived.ProofKit
import Derived.OpenShut
import Derived.ShutString
import Derived.ChangeOld
import Derived.Below
import Derived.Test.YtemplngmkpldeaaOpen
import Derived.Test.YtemplngmkpldeaaCAwake
namespace Go.Proofs.Ytemplngmkpldeaa.codecReads
open Go.Proofs Go.Proofs.Vm Go.Proofs.Rf
open Go.ChangeShapes Go.WideShapes Go.ChangeAt Go.RowKit
open Go.ChangeMaps (open_string shut_string)
set_option linter.unusedVariables false

theorem own : ownKnob Try.prog.godebug = none := by kernel_rfl
theorem laidOut : laidOutB Try.prog = true := by kernel_rfl

/-- A slice of integers that came in: nil, or a row of cells of its capacity, each fitting its kind. -/
def IsRow (k : IntKind) (w : World) (a : Option Addr) (len cap : Nat) (zs : List Int) : Prop :=
  (a = none ∧ len = 0 ∧ cap = 0 ∧ zs = []) ∨
  ∃ x, a = some x ∧ len ≤ cap ∧ cap ≤ maxLen ∧ zs.length = cap ∧ (∀ i, i < zs.length → w.cell? (x.add i) = some (.int k (zs.getD i 0))) ∧ ∀ n ∈ zs, (Lit.int k n).wf = true

/-- Both readers stand alike: the program's at block rb, the document's in block xb. -/
def St (w wr : World) (rb xb : Nat) : Prop := ∃ (bs : List Int) (e : Int) (A : Option Addr) (c : Nat), Rd wr rb bs e ∧ wr.heap[xb]? = some (.cells #[.slice A bs.length c, .int .i64 e] 32) ∧
  Holds wr w.heap.size (.slice A bs.length c) bs ∧ (∀ x ∈ bs, 0 ≤ x ∧ x ≤ 255) ∧ bs.length ≤ 300 ∧ Below w.heap.size w wr

theorem drop_le {bs ds : List Int} (h : ∃ k, ds = bs.drop k) (hb : ∀ x ∈ bs, 0 ≤ x ∧ x ≤ 255) (hl : bs.length ≤ 300) : (∀ x ∈ ds, 0 ≤ x ∧ x ≤ 255) ∧ ds.length ≤ 300 := by
  obtain ⟨k, rfl⟩ := h
  exact ⟨fun x hx => hb x (List.mem_of_mem_drop hx), by simp; omega⟩

/-- Behind a step: the program's reader has gone on (w2), the document's is told (w3) and laid into its block. -/
theorem St.step {w w2 w3 : World} {rb xb : Nat} {bs ds : List Int} {e : Int} {A : Option Addr} {c : Nat} {v0 v1 : Value} (hd : ∃ k, ds = bs.drop k) (hb : ∀ x ∈ bs, 0 ≤ x ∧ x ≤ 255) (hl : bs.length ≤ 300) (hR : Rd w2 rb ds e)
    (hx : w2.heap[xb]? = some (.cells #[v0, v1] 32)) (hrx : rb < xb) (hrb : w.heap.size ≤ rb) (hw : Below w.heap.size w w2) (hg : Below w2.heap.size w2 w3) (hH : Holds w3 w.heap.size (.slice A ds.length c) ds) :
    St w ((w3.setCell ⟨xb, 0, none⟩ (.slice A ds.length c)).setCell ⟨xb, 1, none⟩ (.int .i64 e)) rb xb := by
  have hxl : xb < w2.heap.size := (Array.getElem?_eq_some_iff.1 hx).1
  have hx3 : w3.heap[xb]? = some (.cells #[v0, v1] 32) := (hg.block xb hxl).trans hx
  have hb3 : Below xb w2 ((w3.setCell ⟨xb, 0, none⟩ (.slice A ds.length c)).setCell ⟨xb, 1, none⟩ (.int .i64 e)) := ((hg.mono (B' := xb) (by omega)).setCell (p := ⟨xb, 0, none⟩) (Nat.le_refl _) _).setCell (p := ⟨xb, 1, none⟩) (Nat.le_refl _) _
  have hb4 : Below xb w3 ((w3.setCell ⟨xb, 0, none⟩ (.slice A ds.length c)).setCell ⟨xb, 1, none⟩ (.int .i64 e)) := ((Below.refl xb w3).setCell (p := ⟨xb, 0, none⟩) (Nat.le_refl _) _).setCell (p := ⟨xb, 1, none⟩) (Nat.le_refl _) _
  refine ⟨ds, e, A, c, hR.below hb3 hrx, ?_, hH.below (hb4.mono (by omega)), (drop_le hd hb hl).1, (drop_le hd hb hl).2, hw.trans (hb3.mono (by omega))⟩
  exact setCell_block _ (setCell_block _ hx3)

/-- Blocks of two cells stay such. -/
def Shp (W W' : World) : Prop := ∀ (p : Nat) (u0 u1 : Value), W.heap[p]? = some (.cells #[u0, u1] 32) → ∃ v0 v1, W'.heap[p]? = some (.cells #[v0, v1] 32)
theorem Shp.refl (W : World) : Shp W W := fun _ u0 u1 h => ⟨u0, u1, h⟩
theorem Shp.of {W W' : World} (h : Below W.heap.size W W') : Shp W W' := fun p u0 u1 hp => ⟨u0, u1, (h.block p (Array.getElem?_eq_some_iff.1 hp).1).trans hp⟩
theorem Shp.set2 {W : World} {p : Nat} {u0 u1 : Value} (h : W.heap[p]? = some (.cells #[u0, u1] 32)) (v0 v1 : Value) : Shp W ((W.setCell ⟨p, 0, none⟩ v0).setCell ⟨p, 1, none⟩ v1) := by
  intro q x0 x1 hq
  by_cases e : q = p
  · subst e
    exact ⟨v0, v1, setCell_block _ (setCell_block _ h)⟩
  · refine ⟨x0, x1, ?_⟩
    rw [Below.heap_setCell _ _ _ _ e, Below.heap_setCell _ _ _ _ e]
    exact hq
/-- What 'Read' tells. -/
def Rp (B : Nat) (r : List Int × Int × Nat) (v : Value) (W : World) : Prop := ∃ A c, v = .tuple #[.agg #[.slice A r.1.length c, .int .i64 r.2.1], .int .u64 (r.2.2 : Int)] ∧ Holds W B (.slice A r.1.length c) r.1
theorem Rp.below {B : Nat} {r : List Int × Int × Nat} {v : Value} {W W' : World} (h : Rp B r v W) (hb : Below B W W') : Rp B r v W' := by
  obtain ⟨A, c, h1, h2⟩ := h
  exact ⟨A, c, h1, h2.below hb⟩
def Ag (B : Nat) (ds : List Int) (e : Int) (v : Value) (W : World) : Prop := ∃ A c, v = .agg #[.slice A ds.length c, .int .i64 e] ∧ Holds W B (.slice A ds.length c) ds
theorem Ag.below {B : Nat} {ds : List Int} {e : Int} {v : Value} {W W' : World} (h : Ag B ds e v W) (hb : Below B W W') : Ag B ds e v W' := by
  obtain ⟨A, c, h1, h2⟩ := h
  exact ⟨A, c, h1, h2.below hb⟩
/-- A new block of two cells. -/
def Nw (B : Nat) (v : Value) (W : World) : Prop := ∃ p u0 u1, v = .pointer (some ⟨p, 0, none⟩) ∧ B ≤ p ∧ W.heap[p]? = some (.cells #[u0, u1] 32)
theorem Nw.shp {B : Nat} {v : Value} {W W' : World} (h : Nw B v W) (hs : Shp W W') : Nw B v W' := by
  obtain ⟨p, u0, u1, h1, h2, h3⟩ := h
  obtain ⟨v0, v1, h4⟩ := hs p u0 u1 h3
  exact ⟨p, v0, v1, h1, h2, h4⟩
/-- .. that holds a reader. -/
def Yb (B B2 : Nat) (ds : List Int) (e : Int) (v : Value) (W : World) : Prop := ∃ p A c, v = .pointer (some ⟨p, 0, none⟩) ∧ B2 ≤ p ∧ W.heap[p]? = some (.cells #[.slice A ds.length c, .int .i64 e] 32) ∧ Holds W B (.slice A ds.length c) ds
theorem Yb.grows {B B2 : Nat} {ds : List Int} {e : Int} {v : Value} {W W' : World} (h : Yb B B2 ds e v W) (hg : Grows W W') (hb : Below B W W') : Yb B B2 ds e v W' := by
  obtain ⟨p, A, c, h1, h2, h3, h4⟩ := h
  exact ⟨p, A, c, h1, h2, (Below.block hg p (Array.getElem?_eq_some_iff.1 h3).1).trans h3, h4.below hb⟩

/-- What 'ReadText' tells. -/
def Rt (B : Nat) (r : List Int × Int × List Int) (v : Value) (W : World) : Prop := ∃ A c A' c', v = .tuple #[.agg #[.slice A r.1.length c, .int .i64 r.2.1], .slice A' r.2.2.length c'] ∧ Holds W B (.slice A r.1.length c) r.1 ∧ Holds W B (.slice A' r.2.2.length c') r.2.2
theorem Rt.below {B : Nat} {r : List Int × Int × List Int} {v : Value} {W W' : World} (h : Rt B r v W) (hb : Below B W W') : Rt B r v W' := by
  obtain ⟨A, c, A', c', h1, h2, h3⟩ := h
  exact ⟨A, c, A', c', h1, h2.below hb, h3.below hb⟩
def Sl (B : Nat) (ds : List Int) (v : Value) (W : World) : Prop := ∃ A c, v = .slice A ds.length c ∧ Holds W B (.slice A ds.length c) ds
theorem Sl.below {B : Nat} {ds : List Int} {v : Value} {W W' : World} (h : Sl B ds v W) (hb : Below B W W') : Sl B ds v W' := by
  obtain ⟨A, c, h1, h2⟩ := h
  exact ⟨A, c, h1, h2.below hb⟩
theorem St.fail {w w2 : World} {rb xb : Nat} {ds : List Int} {A : Option Addr} {c : Nat} (hb : ∀ x ∈ ds, 0 ≤ x ∧ x ≤ 255) (hl : ds.length ≤ 300) (hR : Rd w2 rb ds 9) (hx : w2.heap[xb]? = some (.cells #[.slice A ds.length c, .int .i64 0] 32)) (hrx : rb < xb) (hrb : w.heap.size ≤ rb)
    (hw : Below w.heap.size w w2) (hH : Holds w2 w.heap.size (.slice A ds.length c) ds) : St w (w2.setCell ⟨xb, 1, none⟩ (.int .i64 9)) rb xb := by
  have hb3 : Below xb w2 (w2.setCell ⟨xb, 1, none⟩ (.int .i64 9)) := (Below.refl xb w2).setCell (p := ⟨xb, 1, none⟩) (Nat.le_refl _) _
  exact ⟨ds, 9, A, c, hR.below hb3 hrx, setCell_block _ hx, hH.below (hb3.mono (by omega)), hb, hl, hw.trans (hb3.mono (by omega))⟩
theorem St.grows {w w2 w3 : World} {rb xb : Nat} (h : St w w2 rb xb) (hg : Grows w2 w3) : St w w3 rb xb := by
  obtain ⟨ds, e, A, c, hR, hx, hH, hb, hl, hw⟩ := h
  exact ⟨ds, e, A, c, hR.below hg hR.lt, (Below.block hg xb (Array.getElem?_eq_some_iff.1 hx).1).trans hx, hH.below (Below.mono hg hw.size), hb, hl, hw.trans (Below.mono hg hw.size)⟩

set_option maxRecDepth 100000 in
set_option maxHeartbeats 4000000 in
theorem walk (a0 : Option Addr) (len0 cap0 : Nat) (z0 : List Int) (a1 : Option Addr) (len1 cap1 : Nat) (z1 : Nat → Nat → Int) (w : World) (w0 : IsRow .u8 w a0 len0 cap0 z0) (w1 : Op.FlatRow [.u8, .i64] w a1 len1 cap1 z1) :
    Calls Try.prog 4 #[.slice a0 len0 cap0, .slice a1 len1 cap1] w fun e w' => e = .returned (.bool true) ∧ Below w.heap.size w w' := by
  obtain ⟨hh, hl, hbd⟩ := holds_of_row w0
  clear w0
  obtain ⟨bs, hbs⟩ : ∃ bs, z0.take len0 = bs := ⟨_, rfl⟩
  rw [hbs] at hh hl hbd
  subst hl
  have hcm : bs.length ≤ cap0 ∧ cap0 ≤ maxLen := by obtain ⟨A, c, hv, g1, g2, _⟩ := hh; injection hv with _ _ e3; subst e3; exact ⟨g1, g2⟩
  have HCM := Lib.hid hcm
  have HH := Lib.hid hh
  have HBD := Lib.hid hbd
  clear hbs hh hbd hcm
  obtain ⟨hl1, hl2, hl3⟩ := w1
  unfold maxLen at hl2
  have HL3 := Lib.hid hl3
  clear hl3
  have hcase : 300 < bs.length ∨ (¬ 300 < bs.length ∧ 20 < len1) ∨ (¬ 300 < bs.length ∧ ¬ 20 < len1) := by omega
  rcases hcase with h300 | ⟨h300, h20⟩ | ⟨h300, h20⟩
  · go_enter Try.func4, Try.ntmps4
    go_wp2_with (go_at_call 8; refine (awake_any _).mono ?_; rintro e wa ⟨rfl, hba⟩; have HA := Lib.hid hba; clear hba)
    go_ret
    exact ⟨rfl, HA.out⟩
  · go_enter Try.func4, Try.ntmps4
    go_wp2_with (go_at_call 8; refine (awake_any _).mono ?_; rintro e wa ⟨rfl, hba⟩; have HA := Lib.hid hba; clear hba)
    go_ret
    exact ⟨rfl, HA.out⟩
  · go_enter Try.func4, Try.ntmps4
    go_wp2_with (first
      | (go_at_call 8; refine (awake_any _).mono ?_; rintro e wa ⟨rfl, hba⟩; have HA := Lib.hid hba; clear hba)
      | (go_at_call 15; (with_reducible refine (new_any ((HH.out.below HA.out).mono HA.out.size) (by omega)).mono ?_); rintro e w1 ⟨rb, rfl, hrb, h1, hb1⟩; have R1 := Lib.hid h1; have G1 := Lib.hid (thn HA.out hb1); have HRB := Lib.hid (Nat.le_trans HA.out.size hrb); have HRL := Lib.hid h1.lt; clear h1 hb1 hrb))
    obtain ⟨xb, hxb⟩ : ∃ xb, w1.heap.size = xb := ⟨_, rfl⟩
    have HXB := Lib.hid hxb
    have HRX : Hid (rb < xb) := by show rb < xb; rw [← hxb]; exact HRL.out
    rw [hxb]
    clear hxb
    go_loopw [8] (fun i wr => ∃ k : Nat, k ≤ len1 ∧ i = .int .i64 k ∧ Hid (St w wr rb xb)) (fun i _ => len1 - (intOf i).toNat)
    case atStart =>
      refine ⟨0, by omega, rfl, ?_⟩
      have e1 := HXB.out
      subst e1
      exact ⟨bs, 0, a0, cap0, R1.out.below (Grows.alloc _ _) R1.out.lt, World.alloc_heap_new _ _, (HH.out.below G1.out).alloc G1.out.size _, HBD.out, by omega, G1.out.alloc G1.out.size _⟩
    case round =>
      obtain ⟨k, hk, rfl, HS⟩ := hrel
      by_cases hlt : k < len1
      · obtain ⟨b, off, rfl, hbl, hcl⟩ := HL3.out.resolve_left (by omega)
        have h0 := hcl k hlt 0 .u8 rfl
        have h1 := hcl k hlt 1 .i64 rfl
        obtain ⟨wt, hwt⟩ : ∃ x, z1 k 0 = x := ⟨_, rfl⟩
        obtain ⟨mo, hmo⟩ : ∃ x, z1 k 1 = x := ⟨_, rfl⟩
        rw [hwt] at h0
        rw [hmo] at h1
        simp only [List.length_cons, List.length_nil, Nat.zero_add, Nat.reduceAdd, Nat.add_zero] at h0 h1
        clear hwt hmo hcl HL3
        obtain ⟨h0, w0⟩ := h0
        obtain ⟨h1, w1⟩ := h1
        have b0 := bounds_u8 w0
        have b1 := bounds_i64 w1
        clear w0 w1
        have HS' := HS
        obtain ⟨ds, e, A, c, hRd, hX, hHo, hbd, hdl, hbe⟩ := HS.out
        rw [← Nat.add_assoc] at h1
        have g0 := (hbe.cell (p := ⟨b, off + k * 2, none⟩) hbl).trans h0
        have g1 := (hbe.cell (p := ⟨b, off + k * 2 + 1, none⟩) hbl).trans h1
        have hx0 : wr.cell? ⟨xb, 0, none⟩ = some (.slice A ds.length c) := by simp [World.cell?, hX]
        have hx1 : wr.cell? ⟨xb, 1, none⟩ = some (.int .i64 e) := by simp [World.cell?, hX]
        have fx0 : wr.frozen? ⟨xb, 0, none⟩ = false := by simp [World.frozen?, hX]
        have fx1 : wr.frozen? ⟨xb, 1, none⟩ = false := by simp [World.frozen?, hX]
        have HRD := Lib.hid hRd
        have HXC := Lib.hid hX
        have HHO := Lib.hid hHo
        have HDB := Lib.hid hbd
        have HDL := Lib.hid hdl
        have HBE := Lib.hid hbe
        clear hRd hX hHo hbd hdl hbe h0 h1 HS
        go_upto_block 2 with (fail)
        have hm4 : wt % 4 = 0 ∨ wt % 4 = 1 ∨ wt % 4 = 2 ∨ wt % 4 = 3 := by omega
        generalize wt % 4 = q4 at hm4 ⊢
        have HM4 := Lib.hid hm4
        clear hm4
        go_cut [9, 10, 11, 12, 13, 14, 15, 16, 17, 18, 51, 76, 87] (fun s9 s10 s11 s12 _ _ _ _ _ _ _ _ _ wx => ∃ (n : Int) (t : ByteArray), s9 = .int .u64 n ∧ s10 = .int .u64 n ∧ s11 = .string t ∧ s12 = .string t ∧ Hid (St w wx rb xb))
        case first =>
          have hrx : rb < xb := HRX.out
          have hrw : w.heap.size ≤ rb := HRB.out
          rcases HM4.out with rfl | rfl | rfl | rfl
          · have hmm : ∃ m : Nat, (0 ≤ mo ∧ (m : Int) = mo) ∨ (mo < 0 ∧ m = 0) := ⟨mo.toNat, by omega⟩
            obtain ⟨m, hmm⟩ := hmm
            have HMM := Lib.hid hmm
            clear hmm
            have HN0 := Lib.hid (rnumF_at HRD.out HDB.out 0 0 rfl)
            go_upto_region 18 with (fail)
            go_cut [9] (fun s9 wx => s9 = .int .u64 ((rNum ds e m).2.2 : Int) ∧ Hid (Rd wx rb (rNum ds e m).1 (rNum ds e m).2.1) ∧ Hid (wr.grownBy wx (some rb)))
            case first =>
              rcases HMM.out with ⟨hmo, rfl⟩ | ⟨hmo, rfl⟩
              all_goals
                clear HMM
                go_wp2_with (go_at_call 16; (first | with_reducible refine (rnumF HRD.out HDB.out m).mono ?_ | with_reducible refine HN0.out.mono ?_); rintro e' w2 ⟨rfl, h8, h9⟩; have R2 := Lib.hid h8; have G2 := Lib.hid h9; clear h8 h9)
                go_meet
                exact ⟨rfl, R2, G2⟩
            case rest =>
              obtain ⟨rfl, R2, G2⟩ := hcut
              obtain ⟨w2, hw2⟩ : ∃ w2, w2 = wc := ⟨_, rfl⟩
              subst hw2
              have X2 := Lib.hid ((G2.out.block xb (Array.getElem?_eq_some_iff.1 HXC.out).1 (by simp; omega)).trans HXC.out)
              have B2 := Lib.hid ((Below.refl w.heap.size wr).grown G2.out HBE.out.size (fun j ej => by cases ej; exact hrw))
              have x0 : w2.cell? ⟨xb, 0, none⟩ = some (.slice A ds.length c) := by simp [World.cell?, X2.out]
              have x1 : w2.cell? ⟨xb, 1, none⟩ = some (.int .i64 e) := by simp [World.cell?, X2.out]
              have g2 := (B2.out.cell (p := ⟨b, off + k * 2 + 1, none⟩) hbl).trans g1
              go_wp2
              have HWL : Hid (w.heap.size ≤ w2.heap.size) := Nat.le_trans HBE.out.size G2.out.size
              have HXL : Hid (xb < w2.heap.size) := (Array.getElem?_eq_some_iff.1 X2.out).1
              have HBL : Hid (b < w2.heap.size) := Nat.lt_of_lt_of_le hbl HWL.out
              have H2 := Lib.hid (HHO.out.below B2.out)
              have HMB : Hid ((m : Int) ≤ 9223372036854775807) := by show (m : Int) ≤ 9223372036854775807; have := HMM.out; omega
              refine region_all (fr := ?frA) (fun i us W => match i with
                  | 0 => us 0 = .agg #[.slice A ds.length c, .int .i64 e]
                  | 1 => us 1 = .slice (some ⟨b, off, none⟩) len1 cap1
                  | 2 => us 2 = .int .i64 k
                  | 3 => us 3 = .pointer (some ⟨b, off + k * 2, none⟩)
                  | 4 => us 4 = .pointer (some ⟨b, off + k * 2 + 1, none⟩)
                  | 5 => us 5 = .int .i64 mo
                  | 6 => us 6 = .int .i64 m
                  | 7 => us 7 = .int .u64 m
                  | 8 => Rp w.heap.size (rNum ds e m) (us 8) W
                  | 9 => Rp w.heap.size (rNum ds e m) (us 9) W
                  | 10 => Ag w.heap.size (rNum ds e m).1 (rNum ds e m).2.1 (us 10) W
                  | 11 => us 11 = .int .u64 ((rNum ds e m).2.2 : Int)
                  | 12 => Nw w2.heap.size (us 12) W
                  | 13 => Yb w.heap.size w2.heap.size (rNum ds e m).1 (rNum ds e m).2.1 (us 12) W
                  | 14 => us 14 = .int .u64 ((rNum ds e m).2.2 : Int)
                  | _ => True) (fun j W W' => Below w2.heap.size W W' ∧ (j = 13 ∨ Grows W W') ∧ Shp W W') (fun W => Below w2.heap.size w2 W) rfl ?hBA ?hfrA ?hlocA ?hstA ?hG0A ?hGA ?hopA ?hendA
              case hBA => kernel_rfl
              case hfrA =>
                intro us
                simp only [List.length_cons, List.length_nil, Nat.zero_add, Nat.reduceAdd, putO, dstO]
                go_simp
                rfl
              case hlocA =>
                intro i us us' W h hf
                match i with
                | 0 =>
                  have e0 := h 0 (.inl rfl)
                  try dsimp only at hf ⊢
                  rw [e0] at hf
                  exact hf
                | 1 =>
                  have e1 := h 1 (.inl rfl)
                  try dsimp only at hf ⊢
                  rw [e1] at hf
                  exact hf
                | 2 =>
                  have e2 := h 2 (.inl rfl)
                  try dsimp only at hf ⊢
                  rw [e2] at hf
                  exact hf
                | 3 =>
                  have e3 := h 3 (.inl rfl)
                  try dsimp only at hf ⊢
                  rw [e3] at hf
                  exact hf
                | 4 =>
                  have e4 := h 4 (.inl rfl)
                  try dsimp only at hf ⊢
                  rw [e4] at hf
                  exact hf
                | 5 =>
                  have e5 := h 5 (.inl rfl)
                  try dsimp only at hf ⊢
                  rw [e5] at hf
                  exact hf
                | 6 =>
                  have e6 := h 6 (.inl rfl)
                  try dsimp only at hf ⊢
                  rw [e6] at hf
                  exact hf
                | 7 =>
                  have e7 := h 7 (.inl rfl)
                  try dsimp only at hf ⊢
                  rw [e7] at hf
                  exact hf
                | 8 =>
                  have e8 := h 8 (.inl rfl)
                  try dsimp only at hf ⊢
                  rw [e8] at hf
                  exact hf
                | 9 =>
                  have e9 := h 9 (.inl rfl)
                  try dsimp only at hf ⊢
                  rw [e9] at hf
                  exact hf
                | 10 =>
                  have e10 := h 10 (.inl rfl)
                  try dsimp only at hf ⊢
                  rw [e10] at hf
                  exact hf
                | 11 =>
                  have e11 := h 11 (.inl rfl)
                  try dsimp only at hf ⊢
                  rw [e11] at hf
                  exact hf
                | 12 =>
                  have e12 := h 12 (.inl rfl)
                  try dsimp only at hf ⊢
                  rw [e12] at hf
                  exact hf
                | 13 =>
                  have e12 := h 12 (.inr (by kernel_rfl))
                  try dsimp only at hf ⊢
                  rw [e12] at hf
                  exact hf
                | 14 =>
                  have e14 := h 14 (.inl rfl)
                  try dsimp only at hf ⊢
                  rw [e14] at hf
                  exact hf
                | n + 15 => trivial
              case hstA =>
                intro i j us W W' hne hw hi hj hE hf
                match i with
                | 0 => exact hf
                | 1 => exact hf
                | 2 => exact hf
                | 3 => exact hf
                | 4 => exact hf
                | 5 => exact hf
                | 6 => exact hf
                | 7 => exact hf
                | 8 =>
                  exact hf.below (hE.1.mono HWL.out)
                | 9 =>
                  exact hf.below (hE.1.mono HWL.out)
                | 10 =>
                  exact hf.below (hE.1.mono HWL.out)
                | 11 => exact hf
                | 12 =>
                  exact hf.shp hE.2.2
                | 13 =>
                  exact Yb.grows hf (hE.2.1.resolve_left (fun e => hne (by rw [e]))) (hE.1.mono HWL.out)
                | 14 => exact hf
                | n + 15 => trivial
              case hG0A =>
                exact (Below.refl _ w2).drew
              case hGA =>
                intro j W W' hE hg
                exact hg.trans hE.1
              case hopA =>
                intro i hi us W hg hd hq
                match i, hi with
                | 0, _ =>
                  clear hd hq
                  have c0 := (hg.cell (p := ⟨xb, 0, none⟩) HXL.out).trans x0
                  have c1 := (hg.cell (p := ⟨xb, 1, none⟩) HXL.out).trans x1
                  refine all_value rfl rfl (.agg #[.slice A ds.length c, .int .i64 e]) W (by go_simp) ?_ ?_
                  · exact ⟨Below.refl _ _, .inr (Grows.refl _), Shp.refl _⟩
                  · rfl
                | 1, _ =>
                  clear hd hq
                  refine all_value rfl rfl (.slice (some ⟨b, off, none⟩) len1 cap1) W (by go_simp) ?_ ?_
                  · exact ⟨Below.refl _ _, .inr (Grows.refl _), Shp.refl _⟩
                  · rfl
                | 2, _ =>
                  clear hd hq
                  refine all_value rfl rfl (.int .i64 k) W (by go_simp) ?_ ?_
                  · exact ⟨Below.refl _ _, .inr (Grows.refl _), Shp.refl _⟩
                  · rfl
                | 3, _ =>
                  have h1 : us 1 = .slice (some ⟨b, off, none⟩) len1 cap1 := hd 1 (by kernel_rfl)
                  have h2 : us 2 = .int .i64 k := hd 2 (by kernel_rfl)
                  clear hd hq
                  refine all_value rfl rfl (.pointer (some ⟨b, off + k * 2, none⟩)) W (by go_simp) ?_ ?_
                  · exact ⟨Below.refl _ _, .inr (Grows.refl _), Shp.refl _⟩
                  · rfl
                | 4, _ =>
                  have h3 : us 3 = .pointer (some ⟨b, off + k * 2, none⟩) := hd 3 (by kernel_rfl)
                  clear hd hq
                  refine all_value rfl rfl (.pointer (some ⟨b, off + k * 2 + 1, none⟩)) W (by go_simp) ?_ ?_
                  · exact ⟨Below.refl _ _, .inr (Grows.refl _), Shp.refl _⟩
                  · rfl
                | 5, _ =>
                  have h4 : us 4 = .pointer (some ⟨b, off + k * 2 + 1, none⟩) := hd 4 (by kernel_rfl)
                  clear hd hq
                  have c0 := (hg.cell (p := ⟨b, off + k * 2 + 1, none⟩) HBL.out).trans g2
                  refine all_value rfl rfl (.int .i64 mo) W (by go_simp) ?_ ?_
                  · exact ⟨Below.refl _ _, .inr (Grows.refl _), Shp.refl _⟩
                  · rfl
                | 6, _ =>
                  have h5 : us 5 = .int .i64 mo := hd 5 (by kernel_rfl)
                  clear hd hq
                  rcases HMM.out with ⟨hmo, hm⟩ | ⟨hmo, hm⟩
                  · subst hm
                    refine all_value rfl rfl (.int .i64 m) W (by go_simp; intro _; omega) ?_ ?_
                    · exact ⟨Below.refl _ _, .inr (Grows.refl _), Shp.refl _⟩
                    · rfl
                  · subst hm
                    refine all_value rfl rfl (.int .i64 0) W (by go_simp) ?_ ?_
                    · exact ⟨Below.refl _ _, .inr (Grows.refl _), Shp.refl _⟩
                    · rfl
                | 7, _ =>
                  have h6 : us 6 = .int .i64 m := hd 6 (by kernel_rfl)
                  clear hd hq
                  have hwr : IntKind.u64.wrap (m : Int) = m := IntWalk.u64_in _ (by have := HMB.out; omega)
                  refine all_value rfl rfl (.int .u64 m) W (by go_simp) ?_ ?_
                  · exact ⟨Below.refl _ _, .inr (Grows.refl _), Shp.refl _⟩
                  · rfl
                | 8, _ =>
                  have h0 : us 0 = .agg #[.slice A ds.length c, .int .i64 e] := hd 0 (by kernel_rfl)
                  have h7 : us 7 = .int .u64 m := hd 7 (by kernel_rfl)
                  clear hd hq
                  refine all_call rfl rfl 17 #[.agg #[.slice A ds.length c, .int .i64 e], .int .u64 m] (by go_simp) ?_
                  exact (rfRead_any (B := w.heap.size) (Nat.le_trans HWL.out hg.size) (H2.out.below (Below.mono hg HWL.out)) HDB.out e m).mono fun _ W' ⟨A', c', he, hv, hb⟩ => ⟨_, he, ⟨hb.mono hg.size, .inr hb, Shp.of hb⟩, ⟨A', c', rfl, hv⟩⟩
                | 9, _ =>
                  have h8 : Rp w.heap.size (rNum ds e m) (us 8) W := hd 8 (by kernel_rfl)
                  clear hd hq
                  refine all_value rfl rfl (us 8) W (by go_simp) ?_ ?_
                  · exact ⟨Below.refl _ _, .inr (Grows.refl _), Shp.refl _⟩
                  · exact h8
                | 10, _ =>
                  have h9 : Rp w.heap.size (rNum ds e m) (us 9) W := hd 9 (by kernel_rfl)
                  clear hd hq
                  obtain ⟨A', c', e9, hv⟩ := h9
                  refine all_value rfl rfl (.agg #[.slice A' (rNum ds e m).1.length c', .int .i64 (rNum ds e m).2.1]) W (by go_simp) ?_ ?_
                  · exact ⟨Below.refl _ _, .inr (Grows.refl _), Shp.refl _⟩
                  · exact ⟨A', c', rfl, hv⟩
                | 11, _ =>
                  have h9 : Rp w.heap.size (rNum ds e m) (us 9) W := hd 9 (by kernel_rfl)
                  clear hd hq
                  obtain ⟨A', c', e9, hv⟩ := h9
                  refine all_value rfl rfl (.int .u64 ((rNum ds e m).2.2 : Int)) W (by go_simp) ?_ ?_
                  · exact ⟨Below.refl _ _, .inr (Grows.refl _), Shp.refl _⟩
                  · rfl
                | 12, _ =>
                  clear hd hq
                  refine all_value rfl rfl (.pointer (some ⟨W.heap.size, 0, none⟩)) (W.alloc (.cells #[.slice none 0 0, .int .i64 0] 32)) (by go_simp) ?_ ?_
                  · exact ⟨(Below.refl _ _).alloc hg.size _, .inr (Grows.alloc _ _), Shp.of (Grows.alloc _ _)⟩
                  · exact ⟨W.heap.size, _, _, rfl, hg.size, World.alloc_heap_new _ _⟩
                | 13, _ =>
                  have h12 : Nw w2.heap.size (us 12) W := hd 12 (by kernel_rfl)
                  have h10 : Ag w.heap.size (rNum ds e m).1 (rNum ds e m).2.1 (us 10) W := hd 10 (by kernel_rfl)
                  clear hd hq
                  obtain ⟨A', c', e10, hv⟩ := h10
                  obtain ⟨p, u0, u1, e12, hp, hblk⟩ := h12
                  have q0 : W.cell? ⟨p, 0, none⟩ = some u0 := by simp [World.cell?, hblk]
                  have q1 : W.cell? ⟨p, 1, none⟩ = some u1 := by simp [World.cell?, hblk]
                  have f0 : W.frozen? ⟨p, 0, none⟩ = false := by simp [World.frozen?, hblk]
                  have f1 : W.frozen? ⟨p, 1, none⟩ = false := by simp [World.frozen?, hblk]
                  have HBK := Lib.hid hblk
                  clear hblk
                  refine all_skip rfl rfl ((W.setCell ⟨p, 0, none⟩ (.slice A' (rNum ds e m).1.length c')).setCell ⟨p, 1, none⟩ (.int .i64 (rNum ds e m).2.1)) (by go_simp) ?_ ?_
                  · exact ⟨((Below.refl _ _).setCell (p := ⟨p, 0, none⟩) hp _).setCell (p := ⟨p, 1, none⟩) hp _, .inl rfl, Shp.set2 HBK.out _ _⟩
                  refine ⟨p, A', c', e12, hp, setCell_block _ (setCell_block _ HBK.out), hv.below ?_⟩
                  exact ((Below.refl _ _).setCell (p := ⟨p, 0, none⟩) (Nat.le_trans HWL.out hp) _).setCell (p := ⟨p, 1, none⟩) (Nat.le_trans HWL.out hp) _
                | 14, _ =>
                  have h11 : us 11 = .int .u64 ((rNum ds e m).2.2 : Int) := hd 11 (by kernel_rfl)
                  clear hd hq
                  refine all_value rfl rfl (.int .u64 ((rNum ds e m).2.2 : Int)) W (by go_simp) ?_ ?_
                  · exact ⟨Below.refl _ _, .inr (Grows.refl _), Shp.refl _⟩
                  · rfl
                | n + 15, h => exact absurd h (by simp)
              case hendA =>
                intro us W hg hf
                have h13 : Yb w.heap.size w2.heap.size (rNum ds e m).1 (rNum ds e m).2.1 (us 12) W := hf 13 (by simp)
                have h14 : us 14 = .int .u64 ((rNum ds e m).2.2 : Int) := hf 14 (by simp)
                clear hf
                obtain ⟨p, A', c', e12, hp, hblk, hv⟩ := h13
                rw [h14, e12]
                have y0 : W.cell? ⟨p, 0, none⟩ = some (.slice A' (rNum ds e m).1.length c') := by simp [World.cell?, hblk]
                have y1 : W.cell? ⟨p, 1, none⟩ = some (.int .i64 (rNum ds e m).2.1) := by simp [World.cell?, hblk]
                have hX3 := (hg.block xb HXL.out).trans X2.out
                have z0 : W.cell? ⟨xb, 0, none⟩ = some (.slice A ds.length c) := by simp [World.cell?, hX3]
                have z1 : W.cell? ⟨xb, 1, none⟩ = some (.int .i64 e) := by simp [World.cell?, hX3]
                have fz0 : W.frozen? ⟨xb, 0, none⟩ = false := by simp [World.frozen?, hX3]
                have fz1 : W.frozen? ⟨xb, 1, none⟩ = false := by simp [World.frozen?, hX3]
                have HG := Lib.hid hg
                have HV := Lib.hid hv
                clear hblk hX3 hg hv
                go_wp2
                go_meet
                exact ⟨_, _, rfl, rfl, rfl, rfl, St.step (rNum_drop ds e m) HDB.out HDL.out R2.out X2.out hrx hrw (HBE.out.trans B2.out) HG.out HV.out⟩
          · go_wp2_with (first
              | (go_at_call 18; (with_reducible refine (rfixed_any HRD.out HDB.out).mono ?_); rintro e' w2 ⟨rfl, h8, h9⟩; have R2 := Lib.hid h8; have G2 := Lib.hid h9; have X2 := Lib.hid ((h9.block xb (Array.getElem?_eq_some_iff.1 HXC.out).1 (by simp; omega)).trans HXC.out); have B2 := Lib.hid ((Below.refl w.heap.size wr).grown h9 HBE.out.size (fun j ej => by cases ej; exact hrw)); have hxl : xb < w2.heap.size := (Array.getElem?_eq_some_iff.1 X2.out).1; have x0 : w2.cell? ⟨xb, 0, none⟩ = some (.slice A ds.length c) := (by simp [World.cell?, X2.out]); have x1 : w2.cell? ⟨xb, 1, none⟩ = some (.int .i64 e) := (by simp [World.cell?, X2.out]); have fz0 : w2.frozen? ⟨xb, 0, none⟩ = false := (by simp [World.frozen?, X2.out]); have fz1 : w2.frozen? ⟨xb, 1, none⟩ = false := (by simp [World.frozen?, X2.out]); clear h8 h9)
              | (go_at_call 19; (with_reducible refine (rfReadFixed_any (B := w.heap.size) (Nat.le_trans HBE.out.size G2.out.size) (HHO.out.below B2.out) HDB.out e).mono ?_); rintro e' w3 ⟨A1, c1, rfl, hv, hb3⟩; have hz3 := hb3.size; have hxl3 : xb < w3.heap.size := (by omega); have y0 := (hb3.cell (p := ⟨xb, 0, none⟩) hxl).trans x0; have y1 := (hb3.cell (p := ⟨xb, 1, none⟩) hxl).trans x1; have fy0 := (hb3.frozen (p := ⟨xb, 0, none⟩) hxl).trans fz0; have fy1 := (hb3.frozen (p := ⟨xb, 1, none⟩) hxl).trans fz1; have HV := Lib.hid hv; have HB3 := Lib.hid hb3; clear hb3 hv hz3))
            go_meet
            exact ⟨_, _, rfl, rfl, rfl, rfl, St.grows (St.step (rFixed_drop ds e) HDB.out HDL.out R2.out X2.out hrx hrw (HBE.out.trans B2.out) HB3.out HV.out) (Grows.alloc _ _)⟩
          · go_upto_region 29 with (go_at_call 20; (with_reducible refine (rtext_any HRD.out HDB.out (by have := HDL.out; omega) mo b1.1 b1.2).mono ?_); rintro e' w2 ⟨v2, rfl, h7, h8, h9⟩; have rr := own_str h7 (fun x hx => HDB.out x (rText_part ds e mo x hx)); have R2 := Lib.hid h8; have G2 := Lib.hid h9; have X2 := Lib.hid ((h9.block xb (Array.getElem?_eq_some_iff.1 HXC.out).1 (by simp; omega)).trans HXC.out); have B2 := Lib.hid ((Below.refl w.heap.size wr).grown h9 HBE.out.size (fun j ej => by cases ej; exact hrw)); clear h7 h8 h9)
            have x0 : w2.cell? ⟨xb, 0, none⟩ = some (.slice A ds.length c) := by simp [World.cell?, X2.out]
            have x1 : w2.cell? ⟨xb, 1, none⟩ = some (.int .i64 e) := by simp [World.cell?, X2.out]
            have g2 := (B2.out.cell (p := ⟨b, off + k * 2 + 1, none⟩) hbl).trans g1
            clear rr
            have HWL : Hid (w.heap.size ≤ w2.heap.size) := Nat.le_trans HBE.out.size G2.out.size
            have HXL : Hid (xb < w2.heap.size) := (Array.getElem?_eq_some_iff.1 X2.out).1
            have HBL : Hid (b < w2.heap.size) := Nat.lt_of_lt_of_le hbl HWL.out
            have H2 := Lib.hid (HHO.out.below B2.out)
            refine region_all (fr := ?frB) (fun i us W => match i with
                | 0 => us 0 = .agg #[.slice A ds.length c, .int .i64 e]
                | 1 => us 1 = .slice (some ⟨b, off, none⟩) len1 cap1
                | 2 => us 2 = .int .i64 k
                | 3 => us 3 = .pointer (some ⟨b, off + k * 2, none⟩)
                | 4 => us 4 = .pointer (some ⟨b, off + k * 2 + 1, none⟩)
                | 5 => us 5 = .int .i64 mo
                | 6 => Rt w.heap.size (rText ds e mo) (us 6) W
                | 7 => Rt w.heap.size (rText ds e mo) (us 7) W
                | 8 => Ag w.heap.size (rText ds e mo).1 (rText ds e mo).2.1 (us 8) W
                | 9 => Sl w.heap.size (rText ds e mo).2.2 (us 9) W
                | 10 => Nw w2.heap.size (us 10) W
                | 11 => Yb w.heap.size w2.heap.size (rText ds e mo).1 (rText ds e mo).2.1 (us 10) W
                | 12 => Sl w.heap.size (rText ds e mo).2.2 (us 12) W
                | _ => True) (fun j W W' => Below w2.heap.size W W' ∧ (j = 11 ∨ Grows W W') ∧ Shp W W') (fun W => Below w2.heap.size w2 W) rfl ?hBB ?hfrB ?hlocB ?hstB ?hG0B ?hGB ?hopB ?hendB
            case hBB => kernel_rfl
            case hfrB =>
              intro us
              simp only [List.length_cons, List.length_nil, Nat.zero_add, Nat.reduceAdd, putO, dstO]
              go_simp
              rfl
            case hlocB =>
              intro i us us' W h hf
              match i with
              | 0 =>
                have e0 := h 0 (.inl rfl)
                try dsimp only at hf ⊢
                rw [e0] at hf
                exact hf
              | 1 =>
                have e1 := h 1 (.inl rfl)
                try dsimp only at hf ⊢
                rw [e1] at hf
                exact hf
              | 2 =>
                have e2 := h 2 (.inl rfl)
                try dsimp only at hf ⊢
                rw [e2] at hf
                exact hf
              | 3 =>
                have e3 := h 3 (.inl rfl)
                try dsimp only at hf ⊢
                rw [e3] at hf
                exact hf
              | 4 =>
                have e4 := h 4 (.inl rfl)
                try dsimp only at hf ⊢
                rw [e4] at hf
                exact hf
              | 5 =>
                have e5 := h 5 (.inl rfl)
                try dsimp only at hf ⊢
                rw [e5] at hf
                exact hf
              | 6 =>
                have e6 := h 6 (.inl rfl)
                try dsimp only at hf ⊢
                rw [e6] at hf
                exact hf
              | 7 =>
                have e7 := h 7 (.inl rfl)
                try dsimp only at hf ⊢
                rw [e7] at hf
                exact hf
              | 8 =>
                have e8 := h 8 (.inl rfl)
                try dsimp only at hf ⊢
                rw [e8] at hf
                exact hf
              | 9 =>
                have e9 := h 9 (.inl rfl)
                try dsimp only at hf ⊢
                rw [e9] at hf
                exact hf
              | 10 =>
                have e10 := h 10 (.inl rfl)
                try dsimp only at hf ⊢
                rw [e10] at hf
                exact hf
              | 11 =>
                have e10 := h 10 (.inr (by kernel_rfl))
                try dsimp only at hf ⊢
                rw [e10] at hf
                exact hf
              | 12 =>
                have e12 := h 12 (.inl rfl)
                try dsimp only at hf ⊢
                rw [e12] at hf
                exact hf
              | n + 13 => trivial
            case hstB =>
              intro i j us W W' hne hw hi hj hE hf
              match i with
              | 0 => exact hf
              | 1 => exact hf
              | 2 => exact hf
              | 3 => exact hf
              | 4 => exact hf
              | 5 => exact hf
              | 6 =>
                exact hf.below (hE.1.mono HWL.out)
              | 7 =>
                exact hf.below (hE.1.mono HWL.out)
              | 8 =>
                exact hf.below (hE.1.mono HWL.out)
              | 9 =>
                exact hf.below (hE.1.mono HWL.out)
              | 10 =>
                exact hf.shp hE.2.2
              | 11 =>
                exact Yb.grows hf (hE.2.1.resolve_left (fun e => hne (by rw [e]))) (hE.1.mono HWL.out)
              | 12 =>
                exact hf.below (hE.1.mono HWL.out)
              | n + 13 => trivial
            case hG0B =>
              exact (Below.refl _ w2).drew
            case hGB =>
              intro j W W' hE hg
              exact hg.trans hE.1
            case hopB =>
              intro i hi us W hg hd hq
              match i, hi with
              | 0, _ =>
                clear hd hq
                have c0 := (hg.cell (p := ⟨xb, 0, none⟩) HXL.out).trans x0
                have c1 := (hg.cell (p := ⟨xb, 1, none⟩) HXL.out).trans x1
                refine all_value rfl rfl (.agg #[.slice A ds.length c, .int .i64 e]) W (by go_simp) ?_ ?_
                · exact ⟨Below.refl _ _, .inr (Grows.refl _), Shp.refl _⟩
                · rfl
              | 1, _ =>
                clear hd hq
                refine all_value rfl rfl (.slice (some ⟨b, off, none⟩) len1 cap1) W (by go_simp) ?_ ?_
                · exact ⟨Below.refl _ _, .inr (Grows.refl _), Shp.refl _⟩
                · rfl
              | 2, _ =>
                clear hd hq
                refine all_value rfl rfl (.int .i64 k) W (by go_simp) ?_ ?_
                · exact ⟨Below.refl _ _, .inr (Grows.refl _), Shp.refl _⟩
                · rfl
              | 3, _ =>
                have h1 : us 1 = .slice (some ⟨b, off, none⟩) len1 cap1 := hd 1 (by kernel_rfl)
                have h2 : us 2 = .int .i64 k := hd 2 (by kernel_rfl)
                clear hd hq
                refine all_value rfl rfl (.pointer (some ⟨b, off + k * 2, none⟩)) W (by go_simp) ?_ ?_
                · exact ⟨Below.refl _ _, .inr (Grows.refl _), Shp.refl _⟩
                · rfl
              | 4, _ =>
                have h3 : us 3 = .pointer (some ⟨b, off + k * 2, none⟩) := hd 3 (by kernel_rfl)
                clear hd hq
                refine all_value rfl rfl (.pointer (some ⟨b, off + k * 2 + 1, none⟩)) W (by go_simp) ?_ ?_
                · exact ⟨Below.refl _ _, .inr (Grows.refl _), Shp.refl _⟩
                · rfl
              | 5, _ =>
                have h4 : us 4 = .pointer (some ⟨b, off + k * 2 + 1, none⟩) := hd 4 (by kernel_rfl)
                clear hd hq
                have c0 := (hg.cell (p := ⟨b, off + k * 2 + 1, none⟩) HBL.out).trans g2
                refine all_value rfl rfl (.int .i64 mo) W (by go_simp) ?_ ?_
                · exact ⟨Below.refl _ _, .inr (Grows.refl _), Shp.refl _⟩
                · rfl
              | 6, _ =>
                have h0 : us 0 = .agg #[.slice A ds.length c, .int .i64 e] := hd 0 (by kernel_rfl)
                have h5 : us 5 = .int .i64 mo := hd 5 (by kernel_rfl)
                clear hd hq
                refine all_call rfl rfl 21 #[.agg #[.slice A ds.length c, .int .i64 e], .int .i64 mo] (by go_simp) ?_
                exact (rfReadText_any (B := w.heap.size) (Nat.le_trans HWL.out hg.size) (H2.out.below (Below.mono hg HWL.out)) HDB.out e mo b1.1 b1.2).mono fun _ W' ⟨A', c', A2, c2, he, hv, hv2, hb⟩ => ⟨_, he, ⟨hb.mono hg.size, .inr hb, Shp.of hb⟩, ⟨A', c', A2, c2, rfl, hv, hv2⟩⟩
              | 7, _ =>
                have h6 : Rt w.heap.size (rText ds e mo) (us 6) W := hd 6 (by kernel_rfl)
                clear hd hq
                refine all_value rfl rfl (us 6) W (by go_simp) ?_ ?_
                · exact ⟨Below.refl _ _, .inr (Grows.refl _), Shp.refl _⟩
                · exact h6
              | 8, _ =>
                have h7 : Rt w.heap.size (rText ds e mo) (us 7) W := hd 7 (by kernel_rfl)
                clear hd hq
                obtain ⟨A', c', A2, c2, e7, hv, hv2⟩ := h7
                refine all_value rfl rfl (.agg #[.slice A' (rText ds e mo).1.length c', .int .i64 (rText ds e mo).2.1]) W (by go_simp) ?_ ?_
                · exact ⟨Below.refl _ _, .inr (Grows.refl _), Shp.refl _⟩
                · exact ⟨A', c', rfl, hv⟩
              | 9, _ =>
                have h7 : Rt w.heap.size (rText ds e mo) (us 7) W := hd 7 (by kernel_rfl)
                clear hd hq
                obtain ⟨A', c', A2, c2, e7, hv, hv2⟩ := h7
                refine all_value rfl rfl (.slice A2 (rText ds e mo).2.2.length c2) W (by go_simp) ?_ ?_
                · exact ⟨Below.refl _ _, .inr (Grows.refl _), Shp.refl _⟩
                · exact ⟨A2, c2, rfl, hv2⟩
              | 10, _ =>
                clear hd hq
                refine all_value rfl rfl (.pointer (some ⟨W.heap.size, 0, none⟩)) (W.alloc (.cells #[.slice none 0 0, .int .i64 0] 32)) (by go_simp) ?_ ?_
                · exact ⟨(Below.refl _ _).alloc hg.size _, .inr (Grows.alloc _ _), Shp.of (Grows.alloc _ _)⟩
                · exact ⟨W.heap.size, _, _, rfl, hg.size, World.alloc_heap_new _ _⟩
              | 11, _ =>
                have h10 : Nw w2.heap.size (us 10) W := hd 10 (by kernel_rfl)
                have h8 : Ag w.heap.size (rText ds e mo).1 (rText ds e mo).2.1 (us 8) W := hd 8 (by kernel_rfl)
                clear hd hq
                obtain ⟨A', c', e10, hv⟩ := h8
                obtain ⟨p, u0, u1, e10x, hp, hblk⟩ := h10
                have q0 : W.cell? ⟨p, 0, none⟩ = some u0 := by simp [World.cell?, hblk]
                have q1 : W.cell? ⟨p, 1, none⟩ = some u1 := by simp [World.cell?, hblk]
                have f0 : W.frozen? ⟨p, 0, none⟩ = false := by simp [World.frozen?, hblk]
                have f1 : W.frozen? ⟨p, 1, none⟩ = false := by simp [World.frozen?, hblk]
                have HBK := Lib.hid hblk
                clear hblk
                refine all_skip rfl rfl ((W.setCell ⟨p, 0, none⟩ (.slice A' (rText ds e mo).1.length c')).setCell ⟨p, 1, none⟩ (.int .i64 (rText ds e mo).2.1)) (by go_simp) ?_ ?_
                · exact ⟨((Below.refl _ _).setCell (p := ⟨p, 0, none⟩) hp _).setCell (p := ⟨p, 1, none⟩) hp _, .inl rfl, Shp.set2 HBK.out _ _⟩
                refine ⟨p, A', c', e10x, hp, setCell_block _ (setCell_block _ HBK.out), hv.below ?_⟩
                exact ((Below.refl _ _).setCell (p := ⟨p, 0, none⟩) (Nat.le_trans HWL.out hp) _).setCell (p := ⟨p, 1, none⟩) (Nat.le_trans HWL.out hp) _
              | 12, _ =>
                have h9 : Sl w.heap.size (rText ds e mo).2.2 (us 9) W := hd 9 (by kernel_rfl)
                clear hd hq
                refine all_value rfl rfl (us 9) W (by go_simp) ?_ ?_
                · exact ⟨Below.refl _ _, .inr (Grows.refl _), Shp.refl _⟩
                · exact h9
              | n + 13, h => exact absurd h (by simp)
            case hendB =>
              intro us W hg hf
              have h11 : Yb w.heap.size w2.heap.size (rText ds e mo).1 (rText ds e mo).2.1 (us 10) W := hf 11 (by simp)
              have h12 : Sl w.heap.size (rText ds e mo).2.2 (us 12) W := hf 12 (by simp)
              clear hf
              obtain ⟨p, A', c', e12, hp, hblk, hv⟩ := h11
              obtain ⟨A2, c2, e18, hv2⟩ := h12
              rw [e18, e12]
              have y0 : W.cell? ⟨p, 0, none⟩ = some (.slice A' (rText ds e mo).1.length c') := by simp [World.cell?, hblk]
              have y1 : W.cell? ⟨p, 1, none⟩ = some (.int .i64 (rText ds e mo).2.1) := by simp [World.cell?, hblk]
              have hX3 := (hg.block xb HXL.out).trans X2.out
              have z0 : W.cell? ⟨xb, 0, none⟩ = some (.slice A ds.length c) := by simp [World.cell?, hX3]
              have z1 : W.cell? ⟨xb, 1, none⟩ = some (.int .i64 e) := by simp [World.cell?, hX3]
              have fz0 : W.frozen? ⟨xb, 0, none⟩ = false := by simp [World.frozen?, hX3]
              have fz1 : W.frozen? ⟨xb, 1, none⟩ = false := by simp [World.frozen?, hX3]
              have hrun : ∀ u0 u1 : Value, (convert 23 9 (.slice A2 (rText ds e mo).2.2.length c2)).run Try.prog ((W.setCell ⟨xb, 0, none⟩ u0).setCell ⟨xb, 1, none⟩ u1) = .ok (.string (strOf (rText ds e mo).2.2)) ((W.setCell ⟨xb, 0, none⟩ u0).setCell ⟨xb, 1, none⟩ u1) := fun u0 u1 => run_str (hv2.below (((Below.refl _ _).setCell (p := ⟨xb, 0, none⟩) (Nat.le_trans hrw (Nat.le_of_lt hrx)) _).setCell (p := ⟨xb, 1, none⟩) (Nat.le_trans hrw (Nat.le_of_lt hrx)) _)) (fun x hx => HDB.out x (rText_part ds e mo x hx))
              have HG := Lib.hid hg
              have HV := Lib.hid hv
              clear hblk hX3 hg hv hv2
              go_wp2
              go_meet
              exact ⟨_, _, rfl, rfl, rfl, rfl, St.step (rText_drop ds e mo) HDB.out HDL.out R2.out X2.out hrx hrw (HBE.out.trans B2.out) HG.out HV.out⟩
          · by_cases he : e = 0
            · subst he
              go_wp2_with (go_at_call 22; (with_reducible refine (fail_any HRD.out 9).mono ?_); rintro e' w2 ⟨⟨v2, rfl⟩, h8, h9⟩; have R2 := Lib.hid h8; have G2 := Lib.hid h9; have X2 := Lib.hid ((h9.block xb (Array.getElem?_eq_some_iff.1 HXC.out).1 (by simp; omega)).trans HXC.out); have B2 := Lib.hid ((Below.refl w.heap.size wr).grown h9 HBE.out.size (fun j ej => by cases ej; exact hrw)); have x0 : w2.cell? ⟨xb, 0, none⟩ = some (.slice A ds.length c) := (by simp [World.cell?, X2.out]); have x1 : w2.cell? ⟨xb, 1, none⟩ = some (.int .i64 0) := (by simp [World.cell?, X2.out]); have fz1 : w2.frozen? ⟨xb, 1, none⟩ = false := (by simp [World.frozen?, X2.out]); clear h8 h9)
              go_meet
              exact ⟨_, _, rfl, rfl, rfl, rfl, St.fail HDB.out HDL.out R2.out X2.out hrx hrw (HBE.out.trans B2.out) (HHO.out.below B2.out)⟩
            · have he' : (e == 0) = false := by simpa using he
              have HEN := Lib.hid he
              clear he
              go_wp2_with (go_at_call 22; (with_reducible refine (fail_any HRD.out 9).mono ?_); rintro e' w2 ⟨⟨v2, rfl⟩, h8, h9⟩; have R2 := Lib.hid h8; have G2 := Lib.hid h9; have X2 := Lib.hid ((h9.block xb (Array.getElem?_eq_some_iff.1 HXC.out).1 (by simp; omega)).trans HXC.out); have B2 := Lib.hid ((Below.refl w.heap.size wr).grown h9 HBE.out.size (fun j ej => by cases ej; exact hrw)); have x1 : w2.cell? ⟨xb, 1, none⟩ = some (.int .i64 e) := (by simp [World.cell?, X2.out]); clear h8 h9)
              go_meet
              have hR := R2.out
              rw [show rFail e 9 = e by simp [rFail, HEN.out]] at hR
              exact ⟨_, _, rfl, rfl, rfl, rfl, ⟨ds, e, A, c, hR, X2.out, HHO.out.below B2.out, HDB.out, HDL.out, HBE.out.trans B2.out⟩⟩
        case rest =>
          obtain ⟨n, t, rfl, rfl, rfl, rfl, SX⟩ := hcut
          obtain ⟨wx, hwx⟩ : ∃ wx, wx = wc := ⟨_, rfl⟩
          subst hwx
          obtain ⟨fs, f, A3, c3, hRx, hXx, _, _, _, _⟩ := SX.out
          have RX := Lib.hid hRx
          have XL : Hid (xb < wx.heap.size) := (Array.getElem?_eq_some_iff.1 hXx).1
          have x0 : wx.cell? ⟨xb, 0, none⟩ = some (.slice A3 fs.length c3) := by simp [World.cell?, hXx]
          have x1 : wx.cell? ⟨xb, 1, none⟩ = some (.int .i64 f) := by simp [World.cell?, hXx]
          clear hRx hXx g0 g1 hx0 hx1 fx0 fx1
          go_wp2
          refine region_all (fr := ?frC) (fun i us W => match i with
              | 0 => us 0 = .int .u64 n
              | 1 => us 1 = .int .u64 n
              | 2 => us 2 = .bool false
              | 3 => us 3 = .bool false
              | 4 => us 4 = .string t
              | 5 => us 5 = .string t
              | 6 => us 6 = .bool false
              | 7 => us 7 = .bool false
              | 8 => us 8 = .bool false
              | 9 => us 9 = .pointer (some ⟨rb, 0, none⟩)
              | 10 => us 10 = .int .i64 fs.length
              | 11 => us 11 = .pointer (some ⟨xb, 0, none⟩)
              | 12 => us 12 = .slice A3 fs.length c3
              | 13 => us 13 = .int .i64 fs.length
              | 14 => us 14 = .bool false
              | 15 => us 15 = .bool false
              | 16 => us 16 = .bool false
              | 17 => us 17 = .pointer (some ⟨rb, 0, none⟩)
              | 18 => us 18 = .int .i64 f
              | 19 => us 19 = .pointer (some ⟨xb, 1, none⟩)
              | 20 => us 20 = .int .i64 f
              | 21 => us 21 = .bool false
              | 22 => us 22 = .bool false
              | 23 => us 23 = .bool false
              | 24 => us 24 = .pointer (some ⟨rb, 0, none⟩)
              | 25 => us 25 = .int .i64 (rEnd fs f)
              | 26 => us 26 = .agg #[.slice A3 fs.length c3, .int .i64 f]
              | 27 => us 27 = .int .i64 (rEnd fs f)
              | 28 => us 28 = .bool false
              | 29 => us 29 = .bool false
              | _ => True) (fun _ W W' => Grows W W') (fun W => Grows wx W) rfl ?hBC ?hfrC ?hlocC ?hstC ?hG0C ?hGC ?hopC ?hendC
          case hBC => kernel_rfl
          case hfrC =>
            intro us
            simp only [List.length_cons, List.length_nil, Nat.zero_add, Nat.reduceAdd, putO, dstO]
            go_simp
            rfl
          case hlocC =>
            intro i us us' W h hf
            match i with
            | 0 =>
              have e0 := h 0 (.inl rfl)
              try dsimp only at hf ⊢
              rw [e0] at hf
              exact hf
            | 1 =>
              have e1 := h 1 (.inl rfl)
              try dsimp only at hf ⊢
              rw [e1] at hf
              exact hf
            | 2 =>
              have e2 := h 2 (.inl rfl)
              try dsimp only at hf ⊢
              rw [e2] at hf
              exact hf
            | 3 =>
              have e3 := h 3 (.inl rfl)
              try dsimp only at hf ⊢
              rw [e3] at hf
              exact hf
            | 4 =>
              have e4 := h 4 (.inl rfl)
              try dsimp only at hf ⊢
              rw [e4] at hf
              exact hf
            | 5 =>
              have e5 := h 5 (.inl rfl)
              try dsimp only at hf ⊢
              rw [e5] at hf
              exact hf
            | 6 =>
              have e6 := h 6 (.inl rfl)
              try dsimp only at hf ⊢
              rw [e6] at hf
              exact hf
            | 7 =>
              have e7 := h 7 (.inl rfl)
              try dsimp only at hf ⊢
              rw [e7] at hf
              exact hf
            | 8 =>
              have e8 := h 8 (.inl rfl)
              try dsimp only at hf ⊢
              rw [e8] at hf
              exact hf
            | 9 =>
              have e9 := h 9 (.inl rfl)
              try dsimp only at hf ⊢
              rw [e9] at hf
              exact hf
            | 10 =>
              have e10 := h 10 (.inl rfl)
              try dsimp only at hf ⊢
              rw [e10] at hf
              exact hf
            | 11 =>
              have e11 := h 11 (.inl rfl)
              try dsimp only at hf ⊢
              rw [e11] at hf
              exact hf
            | 12 =>
              have e12 := h 12 (.inl rfl)
              try dsimp only at hf ⊢
              rw [e12] at hf
              exact hf
            | 13 =>
              have e13 := h 13 (.inl rfl)
              try dsimp only at hf ⊢
              rw [e13] at hf
              exact hf
            | 14 =>
              have e14 := h 14 (.inl rfl)
              try dsimp only at hf ⊢
              rw [e14] at hf
              exact hf
            | 15 =>
              have e15 := h 15 (.inl rfl)
              try dsimp only at hf ⊢
              rw [e15] at hf
              exact hf
            | 16 =>
              have e16 := h 16 (.inl rfl)
              try dsimp only at hf ⊢
              rw [e16] at hf
              exact hf
            | 17 =>
              have e17 := h 17 (.inl rfl)
              try dsimp only at hf ⊢
              rw [e17] at hf
              exact hf
            | 18 =>
              have e18 := h 18 (.inl rfl)
              try dsimp only at hf ⊢
              rw [e18] at hf
              exact hf
            | 19 =>
              have e19 := h 19 (.inl rfl)
              try dsimp only at hf ⊢
              rw [e19] at hf
              exact hf
            | 20 =>
              have e20 := h 20 (.inl rfl)
              try dsimp only at hf ⊢
              rw [e20] at hf
              exact hf
            | 21 =>
              have e21 := h 21 (.inl rfl)
              try dsimp only at hf ⊢
              rw [e21] at hf
              exact hf
            | 22 =>
              have e22 := h 22 (.inl rfl)
              try dsimp only at hf ⊢
              rw [e22] at hf
              exact hf
            | 23 =>
              have e23 := h 23 (.inl rfl)
              try dsimp only at hf ⊢
              rw [e23] at hf
              exact hf
            | 24 =>
              have e24 := h 24 (.inl rfl)
              try dsimp only at hf ⊢
              rw [e24] at hf
              exact hf
            | 25 =>
              have e25 := h 25 (.inl rfl)
              try dsimp only at hf ⊢
              rw [e25] at hf
              exact hf
            | 26 =>
              have e26 := h 26 (.inl rfl)
              try dsimp only at hf ⊢
              rw [e26] at hf
              exact hf
            | 27 =>
              have e27 := h 27 (.inl rfl)
              try dsimp only at hf ⊢
              rw [e27] at hf
              exact hf
            | 28 =>
              have e28 := h 28 (.inl rfl)
              try dsimp only at hf ⊢
              rw [e28] at hf
              exact hf
            | 29 =>
              have e29 := h 29 (.inl rfl)
              try dsimp only at hf ⊢
              rw [e29] at hf
              exact hf
            | n + 30 => trivial
          case hstC =>
            intro i j us W W' hne hw hi hj hE hf
            match i with
            | 0 => exact hf
            | 1 => exact hf
            | 2 => exact hf
            | 3 => exact hf
            | 4 => exact hf
            | 5 => exact hf
            | 6 => exact hf
            | 7 => exact hf
            | 8 => exact hf
            | 9 => exact hf
            | 10 => exact hf
            | 11 => exact hf
            | 12 => exact hf
            | 13 => exact hf
            | 14 => exact hf
            | 15 => exact hf
            | 16 => exact hf
            | 17 => exact hf
            | 18 => exact hf
            | 19 => exact hf
            | 20 => exact hf
            | 21 => exact hf
            | 22 => exact hf
            | 23 => exact hf
            | 24 => exact hf
            | 25 => exact hf
            | 26 => exact hf
            | 27 => exact hf
            | 28 => exact hf
            | 29 => exact hf
            | n + 30 => trivial
          case hG0C =>
            exact (Grows.refl wx).drewN 1
          case hGC =>
            intro j W W' hE hg
            exact hg.trans hE
          case hopC =>
            intro i hi us W hg hd hq
            match i, hi with
            | 0, _ =>
              clear hd hq
              refine all_value rfl rfl (.int .u64 n) W (by go_simp) ?_ ?_
              · exact Grows.refl _
              · rfl
            | 1, _ =>
              clear hd hq
              refine all_value rfl rfl (.int .u64 n) W (by go_simp) ?_ ?_
              · exact Grows.refl _
              · rfl
            | 2, _ =>
              have h0 : us 0 = .int .u64 n := hd 0 (by kernel_rfl)
              have h1 : us 1 = .int .u64 n := hd 1 (by kernel_rfl)
              clear hd hq
              refine all_value rfl rfl (.bool false) W (by go_simp) ?_ ?_
              · exact Grows.refl _
              · rfl
            | 3, _ =>
              have h2 : us 2 = .bool false := hd 2 (by kernel_rfl)
              clear hd hq
              refine all_value rfl rfl (.bool false) W (by go_simp) ?_ ?_
              · exact Grows.refl _
              · rfl
            | 4, _ =>
              have h3 : us 3 = .bool false := hd 3 (by kernel_rfl)
              clear hd hq
              rw [h3]
              refine all_value rfl rfl (.string t) W (by go_simp) ?_ ?_
              · exact Grows.refl _
              · rfl
            | 5, _ =>
              have h3 : us 3 = .bool false := hd 3 (by kernel_rfl)
              clear hd hq
              rw [h3]
              refine all_value rfl rfl (.string t) W (by go_simp) ?_ ?_
              · exact Grows.refl _
              · rfl
            | 6, _ =>
              have h4 : us 4 = .string t := hd 4 (by kernel_rfl)
              have h5 : us 5 = .string t := hd 5 (by kernel_rfl)
              have h3 : us 3 = .bool false := hd 3 (by kernel_rfl)
              clear hd hq
              rw [h3]
              refine all_value rfl rfl (.bool false) W (by go_simp) ?_ ?_
              · exact Grows.refl _
              · rfl
            | 7, _ =>
              have h3 : us 3 = .bool false := hd 3 (by kernel_rfl)
              have h6 : us 6 = .bool false := hd 6 (by kernel_rfl)
              clear hd hq
              refine all_value rfl rfl (.bool false) W (by go_simp) ?_ ?_
              · exact Grows.refl _
              · rfl
            | 8, _ =>
              have h7 : us 7 = .bool false := hd 7 (by kernel_rfl)
              clear hd hq
              refine all_value rfl rfl (.bool false) W (by go_simp) ?_ ?_
              · exact Grows.refl _
              · rfl
            | 9, _ =>
              have h8 : us 8 = .bool false := hd 8 (by kernel_rfl)
              clear hd hq
              rw [h8]
              refine all_value rfl rfl (.pointer (some ⟨rb, 0, none⟩)) W (by go_simp) ?_ ?_
              · exact Grows.refl _
              · rfl
            | 10, _ =>
              have h9 : us 9 = .pointer (some ⟨rb, 0, none⟩) := hd 9 (by kernel_rfl)
              have h8 : us 8 = .bool false := hd 8 (by kernel_rfl)
              clear hd hq
              rw [h8]
              refine all_call rfl rfl 23 #[.pointer (some ⟨rb, 0, none⟩)] (by go_simp) ?_
              exact (left_any (RX.out.below hg RX.out.lt)).mono fun _ _ ⟨he, hw⟩ => ⟨_, he, hw ▸ Grows.refl _, rfl⟩
            | 11, _ =>
              have h8 : us 8 = .bool false := hd 8 (by kernel_rfl)
              clear hd hq
              rw [h8]
              refine all_value rfl rfl (.pointer (some ⟨xb, 0, none⟩)) W (by go_simp) ?_ ?_
              · exact Grows.refl _
              · rfl
            | 12, _ =>
              have h11 : us 11 = .pointer (some ⟨xb, 0, none⟩) := hd 11 (by kernel_rfl)
              have h8 : us 8 = .bool false := hd 8 (by kernel_rfl)
              clear hd hq
              rw [h8]
              have c0 := (Grows.cell hg (b := xb) (o := 0) XL.out).trans x0
              refine all_value rfl rfl (.slice A3 fs.length c3) W (by go_simp) ?_ ?_
              · exact Grows.refl _
              · rfl
            | 13, _ =>
              have h12 : us 12 = .slice A3 fs.length c3 := hd 12 (by kernel_rfl)
              have h8 : us 8 = .bool false := hd 8 (by kernel_rfl)
              clear hd hq
              rw [h8]
              refine all_value rfl rfl (.int .i64 fs.length) W (by go_simp) ?_ ?_
              · exact Grows.refl _
              · rfl
            | 14, _ =>
              have h10 : us 10 = .int .i64 fs.length := hd 10 (by kernel_rfl)
              have h13 : us 13 = .int .i64 fs.length := hd 13 (by kernel_rfl)
              have h8 : us 8 = .bool false := hd 8 (by kernel_rfl)
              clear hd hq
              rw [h8]
              refine all_value rfl rfl (.bool false) W (by go_simp) ?_ ?_
              · exact Grows.refl _
              · rfl
            | 15, _ =>
              have h8 : us 8 = .bool false := hd 8 (by kernel_rfl)
              have h14 : us 14 = .bool false := hd 14 (by kernel_rfl)
              clear hd hq
              refine all_value rfl rfl (.bool false) W (by go_simp) ?_ ?_
              · exact Grows.refl _
              · rfl
            | 16, _ =>
              have h15 : us 15 = .bool false := hd 15 (by kernel_rfl)
              clear hd hq
              refine all_value rfl rfl (.bool false) W (by go_simp) ?_ ?_
              · exact Grows.refl _
              · rfl
            | 17, _ =>
              have h16 : us 16 = .bool false := hd 16 (by kernel_rfl)
              clear hd hq
              rw [h16]
              refine all_value rfl rfl (.pointer (some ⟨rb, 0, none⟩)) W (by go_simp) ?_ ?_
              · exact Grows.refl _
              · rfl
            | 18, _ =>
              have h17 : us 17 = .pointer (some ⟨rb, 0, none⟩) := hd 17 (by kernel_rfl)
              have h16 : us 16 = .bool false := hd 16 (by kernel_rfl)
              clear hd hq
              rw [h16]
              refine all_call rfl rfl 24 #[.pointer (some ⟨rb, 0, none⟩)] (by go_simp) ?_
              exact (err_any (RX.out.below hg RX.out.lt)).mono fun _ _ ⟨he, hw⟩ => ⟨_, he, hw ▸ Grows.refl _, rfl⟩
            | 19, _ =>
              have h16 : us 16 = .bool false := hd 16 (by kernel_rfl)
              clear hd hq
              rw [h16]
              refine all_value rfl rfl (.pointer (some ⟨xb, 1, none⟩)) W (by go_simp) ?_ ?_
              · exact Grows.refl _
              · rfl
            | 20, _ =>
              have h19 : us 19 = .pointer (some ⟨xb, 1, none⟩) := hd 19 (by kernel_rfl)
              have h16 : us 16 = .bool false := hd 16 (by kernel_rfl)
              clear hd hq
              rw [h16]
              have c1 := (Grows.cell hg (b := xb) (o := 1) XL.out).trans x1
              refine all_value rfl rfl (.int .i64 f) W (by go_simp) ?_ ?_
              · exact Grows.refl _
              · rfl
            | 21, _ =>
              have h18 : us 18 = .int .i64 f := hd 18 (by kernel_rfl)
              have h20 : us 20 = .int .i64 f := hd 20 (by kernel_rfl)
              have h16 : us 16 = .bool false := hd 16 (by kernel_rfl)
              clear hd hq
              rw [h16]
              refine all_value rfl rfl (.bool false) W (by go_simp) ?_ ?_
              · exact Grows.refl _
              · rfl
            | 22, _ =>
              have h16 : us 16 = .bool false := hd 16 (by kernel_rfl)
              have h21 : us 21 = .bool false := hd 21 (by kernel_rfl)
              clear hd hq
              refine all_value rfl rfl (.bool false) W (by go_simp) ?_ ?_
              · exact Grows.refl _
              · rfl
            | 23, _ =>
              have h22 : us 22 = .bool false := hd 22 (by kernel_rfl)
              clear hd hq
              refine all_value rfl rfl (.bool false) W (by go_simp) ?_ ?_
              · exact Grows.refl _
              · rfl
            | 24, _ =>
              have h23 : us 23 = .bool false := hd 23 (by kernel_rfl)
              clear hd hq
              rw [h23]
              refine all_value rfl rfl (.pointer (some ⟨rb, 0, none⟩)) W (by go_simp) ?_ ?_
              · exact Grows.refl _
              · rfl
            | 25, _ =>
              have h24 : us 24 = .pointer (some ⟨rb, 0, none⟩) := hd 24 (by kernel_rfl)
              have h23 : us 23 = .bool false := hd 23 (by kernel_rfl)
              clear hd hq
              rw [h23]
              refine all_call rfl rfl 25 #[.pointer (some ⟨rb, 0, none⟩)] (by go_simp) ?_
              exact (end_any (RX.out.below hg RX.out.lt)).mono fun _ _ ⟨he, hw⟩ => ⟨_, he, hw ▸ Grows.refl _, rfl⟩
            | 26, _ =>
              have h23 : us 23 = .bool false := hd 23 (by kernel_rfl)
              clear hd hq
              rw [h23]
              have c0 := (Grows.cell hg (b := xb) (o := 0) XL.out).trans x0
              have c1 := (Grows.cell hg (b := xb) (o := 1) XL.out).trans x1
              refine all_value rfl rfl (.agg #[.slice A3 fs.length c3, .int .i64 f]) W (by go_simp) ?_ ?_
              · exact Grows.refl _
              · rfl
            | 27, _ =>
              have h26 : us 26 = .agg #[.slice A3 fs.length c3, .int .i64 f] := hd 26 (by kernel_rfl)
              have h23 : us 23 = .bool false := hd 23 (by kernel_rfl)
              clear hd hq
              rw [h23]
              refine all_call rfl rfl 26 #[.agg #[.slice A3 fs.length c3, .int .i64 f]] (by go_simp) ?_
              exact (rfEnd_any W A3 fs.length c3 f fs rfl).mono fun _ _ ⟨he, hw⟩ => ⟨_, he, hw, rfl⟩
            | 28, _ =>
              have h25 : us 25 = .int .i64 (rEnd fs f) := hd 25 (by kernel_rfl)
              have h27 : us 27 = .int .i64 (rEnd fs f) := hd 27 (by kernel_rfl)
              have h23 : us 23 = .bool false := hd 23 (by kernel_rfl)
              clear hd hq
              rw [h23]
              refine all_value rfl rfl (.bool false) W (by go_simp) ?_ ?_
              · exact Grows.refl _
              · rfl
            | 29, _ =>
              have h23 : us 23 = .bool false := hd 23 (by kernel_rfl)
              have h28 : us 28 = .bool false := hd 28 (by kernel_rfl)
              clear hd hq
              refine all_value rfl rfl (.bool false) W (by go_simp) ?_ ?_
              · exact Grows.refl _
              · rfl
            | n + 30, h => exact absurd h (by simp)
          case hendC =>
            intro us W hg hf
            have h29 : us 29 = .bool false := hf 29 (by simp)
            clear hf
            rw [h29]
            have HG := Lib.hid hg
            clear hg
            go_wp2
            go_roundw
            case rel => exact ⟨k + 1, by omega, by go_num, SX.out.grows HG.out⟩
            case measure => simp [intOf]; omega
      · obtain ⟨fs, f, A3, c3, hRx, hXx, _, _, _, hbx⟩ := HS.out
        have HRR := Lib.hid (fun n => Rd.below hRx ((Grows.refl wr).drewN n) hRx.lt)
        have x0 : wr.cell? ⟨xb, 0, none⟩ = some (.slice A3 fs.length c3) := by simp [World.cell?, hXx]
        have HBX := Lib.hid hbx
        clear hRx hXx hbx
        go_wp2
        go_quiet ((go_at_call 23; exact Calls.quiet_of_same ((left_any (HRR.out _)).mono fun _ _ ⟨h1, h2⟩ => ⟨h1, h2.symm⟩)))
        go_wp2
        go_ret
        exact ⟨rfl, HBX.out.trans (Below.mono ((Grows.refl wr).drewN _) HBX.out.size)⟩

set_option maxRecDepth 100000 in
theorem lifted (os : Os) (started : os.Started) (H : Type) (enc : TypeId × Value → H) :
    ReturnsInHanded {} Try.checked os 4 .any (Rows.codecReadsSpec.pre6 enc Try.prog Try.f4 Rows.codecReadsRow.domain false) (Rows.codecReadsSpec.post enc Try.prog Try.f4 false true false false) := by
  refine returnsInHanded_of_change (C := Try.checked) own started (by kernel_rfl) Try.func4
    (ChangeSpec.witness6 (enc := enc) (C := Try.checked) false ⟨#[], #[.slice none 0 0, .slice none 0 0], []⟩ 8 (by kernel_rfl) (by kernel_rfl) (by kernel_rfl) (by kernel_rfl)) ?_
  intro W base args ds gs before hval0 hW hcnd _
  have hval : ∀ (j : Nat) t v, Try.f4.params[j]? = some t → args[j]? = some v → Value.okWide Try.prog W .any base t v := hval0
  have hW' := hW
  obtain ⟨p, q, hA0, hV, rfl, hfz, hnd⟩ := hW
  have hA : DataW.TrodAll enc Try.prog W 0 (fun _ => true) true Try.f4.params.toList args.toList ds p := hA0
  rw [Try.params4] at hA hval
  obtain ⟨v0, vs0, d0, ds0, p0, q0, hargs, rfl, rfl, h0, r0⟩ := trodAll_cons hA
  obtain ⟨v1, vs1, d1, ds1, p1, q1, rfl, rfl, rfl, h1, r1⟩ := trodAll_cons r0
  obtain ⟨rfl, rfl, rfl⟩ := trodAll_nil r1
  obtain rfl : args = #[v0, v1] := by cases args; simp_all
  obtain ⟨rfl, rfl⟩ := trodVars_none hV
  obtain ⟨a0, len0, cap0, rfl⟩ := okWide_slice Try.underlying23 (hval 0 23 v0 rfl rfl)
  have k0 := h0
  have lt0 : ∀ x ∈ p0, x.block < W.heap.size := by obtain ⟨m, hm⟩ := k0; exact DataW.trod_lt m _ _ _ hm
  obtain ⟨z0, w0⟩ : ∃ zs, IsRow .u8 W a0 len0 cap0 zs := by
    obtain ⟨fuel, hf⟩ := h0
    rcases open_ints Try.underlying23 Try.underlying5 (by kernel_rfl) hf with ⟨hcs, _⟩ | ⟨x, l, c, zs, hcs, _, hl, hm, hz, _, hcell, hwz⟩
    · simp [Value.cells] at hcs
      obtain ⟨rfl, rfl, rfl⟩ := hcs
      exact ⟨[], .inl ⟨rfl, rfl, rfl, rfl⟩⟩
    · simp [Value.cells] at hcs
      obtain ⟨rfl, rfl, rfl⟩ := hcs
      exact ⟨zs, .inr ⟨_, rfl, hl, hm, by simpa using hz, hcell, hwz⟩⟩
  obtain ⟨a1, len1, cap1, rfl⟩ := okWide_slice Try.underlying28 (hval 1 28 v1 rfl rfl)
  have k1 := h1
  have lt1 : ∀ x ∈ p1, x.block < W.heap.size := by obtain ⟨m, hm⟩ := k1; exact DataW.trod_lt m _ _ _ hm
  obtain ⟨z1, w1⟩ := Op.open_flats (f := 9) (ks := [.u8, .i64]) Try.underlying28 (by kernel_rfl) (by kernel_rfl) (by decide) h1
  clear hA0 hval0
  refine (walk a0 len0 cap0 z0 a1 len1 cap1 z1 W w0 w1).mono fun e W' ⟨he, bel⟩ => ?_
  subst he
  exact ⟨_, rfl, _, _, _, [], _, [], hW', trodAll_mk1 (shut_bool Try.underlying4 _), (trodAll_cons_mk (Below.trod laidOut (by kernel_rfl) (of_decide_eq_true (by kernel_rfl)) k0 bel lt0) (trodAll_cons_mk (Below.trod laidOut (by kernel_rfl) (of_decide_eq_true (by kernel_rfl)) k1 bel lt1) trodAll_mk0)), rfl, bel.frame _, fun h => by cases h⟩

theorem over : Rows.codecReadsRow.holds Try.pinned (OpenSpec.ofChange Rows.codecReadsSpec) :=
  OpenClaim.holds_of_wide 4 Try.f4 rfl rfl rfl rfl rfl rfl rfl ⟨rfl, rfl, rfl, rfl, rfl⟩ rfl rfl rfl rfl rfl (by kernel_rfl) Try.func4 (by kernel_rfl)
    (of_decide_eq_true (by kernel_rfl)) (by unfold Func.isWrapper; first | (rw [if_pos (by decide +kernel)]; kernel_rfl) | (rw [if_neg (by decide +kernel)]; exact ⟨rfl, rfl⟩))
    (fun os started H enc _ => lifted os started H enc)

/-- The statement. -/
theorem proved : Rows.CodecReadsSaid := over
#print axioms proved
end Go.Proofs.Ytemplngmkpldeaa.codecReads
