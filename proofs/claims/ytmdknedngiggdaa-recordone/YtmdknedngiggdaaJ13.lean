/- Elements appended to a row of the call's own, at a step of a region that draws its order. · replay.lots: all buckets and events, by their ticks. · The document's: lumps, least. · Plain mathematics of the document's With: the least one of those that are left, again and again. -/
import Derived.Deep.RegionLaw
import Derived.Test.YtmdknedngiggdaaJ11
import Derived.Test.YtmdknedngiggdaaJ12
section
/- Elements appended to a row of the call's own, at a step of a region that draws its order. -/
namespace Go.Proofs.Rw
open Go Go.RowKit
variable {α : Type} {L : Lay α}

theorem step_app {P : Program} (e : TypeId) (z : Value) (bytes : Nat) {t : TypeId} (hinfo : (P.info? e).map (fun i => (i.zero, i.size, i.bytes)) = some (some z, L.size, bytes)) (ht : P.underlying t = some (.slice e)) (hz : z.cells.size = L.size) (hsz : 0 < L.size) (hby : bytes ≤ 1000)
    {w : World} {ops : Array Oper} {o : Oper} {a : Act} {K : Act → World → Prop} {Q : Exit → Act → World → Prop} {E : Prop} (hgd : o.guard = none) (s x : Operand)
    (hop : o.op = Op.call { callee := Callee.builtin Builtin.append, args := #[s, x], argTypes := #[t, t] }) (base : Nat) (v u : Value) (xs ys : List α) (B : Nat) (hs : a.eval s = v) (hown : w.ownsRow base e L.size v xs.length (L.cells xs))
    (hx : a.eval x = u) (hu : Lies L w B u ys) (h1 : ∀ y ∈ ys, ∀ u ∈ L.enc y, u.oneCell' = true) (hb : xs.length + ys.length ≤ 10000000) (hbase : base ≤ w.heap.size)
    (hK : ∀ v' w', w'.ownsRow base e L.size v' (xs ++ ys).length (L.cells (xs ++ ys)) → w.grownBy w' v.ownBlock → K (a.put o.dst v') w') :
    if Region.wanted o (yielded ops a.tmps) = true then Oper.wp P o a w K Q else E := by
  have hw : Region.wanted o (yielded ops a.tmps) = true := by simp [Region.wanted, hgd]
  rw [if_pos hw]
  obtain ⟨v', w', hr, h2, h3⟩ := run_app t o.type e z bytes hinfo ht hz hsz hby w hown hu h1 hb hbase
  unfold Oper.wp execOp
  simp only [hop, resolve, invoke, builtin, Sem.run_bind, Sem.run_pure, Result.andThen_ok, List.map_toArray, List.map_cons, List.map_nil, hs, hx, hr]
  exact hK v' w' h2 h3

/-- A lump in a literal of one. -/
theorem lit_lump' (T : TypeId) (W : World) (n : Nat) (hn : W.heap.size = n) (a b : Nat) (v : Int) (hv : v = (b : Int)) : Lies spL (W.alloc (.cells #[.int .u64 a, .int .u64 v] T)) (n + 1) (.slice (some ⟨n, 0, none⟩) 1 1) [(a, b)] := by
  subst hv hn
  refine ⟨_, 1, rfl, by simp, by unfold maxLen; omega, .inr ⟨W.heap.size, 0, by omega, rfl, fun j u hu => ?_⟩⟩
  rw [Nat.zero_add, cell_of_row _ _ _ #[.int .u64 a, .int .u64 b] T (0, 0) (heap_alloc_new W _)]
  rw [cells_one] at hu
  simpa [spL] using hu

end Go.Proofs.Rw
end
section
/- replay.lots: all buckets and events, by their ticks. -/
namespace Go.Proofs.Lh
open Go.Proofs.Lm (Sp)
def lotOf (i : Nat) (b : Sp) : Sp := (b.2, 2 ^ i)
theorem lotsTo_step (ls : Lv) (j : Nat) : lotsTo ls (j + 1) = lotsTo ls j ++ (lev ls j).map (lotOf j) := lotsTo_succ ls j
theorem lotsTo_pre (ls : Lv) : ∀ {i j : Nat}, i ≤ j → (lotsTo ls i).length ≤ (lotsTo ls j).length
  | i, 0, h => by rw [Nat.le_zero.1 h]; exact Nat.le_refl _
  | i, j + 1, h => by
    rcases Nat.eq_or_lt_of_le h with rfl | h
    · exact Nat.le_refl _
    · have := lotsTo_pre ls (i := i) (j := j) (by omega)
      rw [lotsTo_step, List.length_append]
      omega
def lotsM (m : Hm) : List Sp := lotsTo m.2.2 m.2.2.length
theorem lots_part (evs : List Ev) (ms : List Hm) {j : Nat} (hj : j < ms.length) {i k : Nat} (hi : i < ms[j].2.2.length) (hk : k < (lev ms[j].2.2 i).length) :
    ((ms.take j).flatMap lotsM ++ lotsTo ms[j].2.2 i ++ ((lev ms[j].2.2 i).take k).map (lotOf i)).length + 1 ≤ (lotsP evs ms).length := by
  have e1 : ms.flatMap lotsM = (ms.take (j + 1)).flatMap lotsM ++ (ms.drop (j + 1)).flatMap lotsM := by rw [← List.flatMap_append, List.take_append_drop]
  have e2 := flat_take lotsM hj
  have e3 := lotsTo_pre ms[j].2.2 (show i + 1 ≤ ms[j].2.2.length from hi)
  rw [lotsTo_step] at e3
  unfold lotsP
  rw [show (ms.flatMap fun m => lotsTo m.2.2 m.2.2.length) = ms.flatMap lotsM from rfl, e1, e2]
  simp only [List.length_append, List.length_map, List.length_take] at *
  have e4 : (lotsM ms[j]).length = (lotsTo ms[j].2.2 ms[j].2.2.length).length := rfl
  omega
theorem lots_evs (evs : List Ev) (ms : List Hm) {i : Nat} (hi : i < evs.length) : (ms.flatMap lotsM ++ (evs.take i).map lumpE).length + 1 ≤ (lotsP evs ms).length := by
  unfold lotsP
  rw [show (ms.flatMap fun m => lotsTo m.2.2 m.2.2.length) = ms.flatMap lotsM from rfl]
  simp only [List.length_append, List.length_map, List.length_take]
  omega
end Go.Proofs.Lh
namespace Go.Proofs.Ytmdknedngiggdaa
open Go.RowKit Go.Shelf Go.Proofs.Rw Go.Proofs.Lh Go.Proofs.Rn

attribute [local go_sem] Oper.semAt_some

end Go.Proofs.Ytmdknedngiggdaa
end
section
/- The document's: lumps, least. -/
namespace Go.Proofs.Lh
open Go.Proofs.Lm (Sp)
theorem lumps_part {L : Lv} {d : Nat} (hd : d < L.length) : lumpsOf d (L.drop d) = lumpsOf (d + 1) (L.drop (d + 1)) ++ (lev L d).map (lotOf d) := lumps_step hd
def lumpM (m : Hm) : List Sp := lumpsOf 0 m.2.2
theorem lumps_drop (L : Lv) : ∀ d, d ≤ L.length → (lumpsOf d (L.drop d)).length ≤ (lumpsOf 0 L).length
  | 0, _ => by simp
  | d + 1, h => by
    have h1 := lumps_drop L d (by omega)
    rw [lumps_part (by omega), List.length_append] at h1
    omega
theorem lumps_bound (ms : List Hm) {j : Nat} (hj : j < ms.length) {d k : Nat} (hd : d < ms[j].2.2.length) (hk : k < (lev ms[j].2.2 d).length) :
    ((ms.take j).flatMap lumpM ++ lumpsOf (d + 1) (ms[j].2.2.drop (d + 1)) ++ ((lev ms[j].2.2 d).take k).map (lotOf d)).length + 1 ≤ (ms.flatMap lumpM).length := by
  have e1 : ms.flatMap lumpM = (ms.take (j + 1)).flatMap lumpM ++ (ms.drop (j + 1)).flatMap lumpM := by rw [← List.flatMap_append, List.take_append_drop]
  have e2 := flat_take lumpM hj
  have e3 := lumps_drop ms[j].2.2 d (by omega)
  rw [lumps_part hd] at e3
  rw [e1, e2]
  have e4 : (lumpM ms[j]).length = (lumpsOf 0 ms[j].2.2).length := rfl
  simp only [List.length_append, List.length_map, List.length_take] at *
  omega
end Go.Proofs.Lh
namespace Go.Proofs.Ytmdknedngiggdaa
open Go.RowKit Go.Shelf Go.Proofs.Rw Go.Proofs.Lh Go.Proofs.Rn

attribute [local go_sem] Oper.semAt_some

set_option maxRecDepth 100000 in
set_option maxHeartbeats 4000000 in
theorem lumps_any (xs : List Hx) (hl : xs.length ≤ 1000000) (hlv : ∀ x ∈ xs, x.ls.length ≤ 60 ∧ ∀ i, (lev x.ls i).length ≤ 1000000) (hcap : ((xs.map Hx.m).flatMap lumpM).length ≤ 1000000) (w : World) (A : Option Addr) (c : Nat) (h : Hs w w.heap.size (.slice A xs.length c) xs) :
    Calls Try.prog 80 #[.slice A xs.length c] w fun e w' => ∃ v : Value, e = .returned v ∧ OwnT 130 w' w.heap.size v ((xs.map Hx.m).flatMap lumpM) ∧ Below w.heap.size w w' := by
  obtain ⟨N, hN⟩ : ∃ N, xs.length = N := ⟨_, rfl⟩
  obtain ⟨ms, hms⟩ : ∃ ms, xs.map Hx.m = ms := ⟨_, rfl⟩
  rw [hms] at hcap ⊢
  have hpart : ∀ (j d k : Nat) (hj : j < xs.length), d < xs[j].ls.length → k < (lev xs[j].ls d).length → ((ms.take j).flatMap lumpM ++ lumpsOf (d + 1) (xs[j].ls.drop (d + 1)) ++ ((lev xs[j].ls d).take k).map (lotOf d)).length + 1 ≤ (ms.flatMap lumpM).length := by
    intro j d k hj hi hk
    have hj' : j < ms.length := by rw [← hms]; simpa using hj
    have e : ms[j] = xs[j].m := by simp only [← hms, List.getElem_map]
    have := lumps_bound ms hj' (d := d) (k := k) (by rw [e]; exact hi) (by rw [e]; exact hk)
    rw [e] at this
    exact this
  have hstep : ∀ (j : Nat) (hj : j < xs.length), (ms.take (j + 1)).flatMap lumpM = (ms.take j).flatMap lumpM ++ lumpsOf 0 xs[j].ls := by
    intro j hj
    have hj' : j < ms.length := by rw [← hms]; simpa using hj
    have e : ms[j] = xs[j].m := by simp only [← hms, List.getElem_map]
    rw [flat_take lumpM hj', e]
    rfl
  have hlen : ms.length = N := by rw [← hms]; simpa using hN
  have HP := Lib.hid hpart
  have HST := Lib.hid hstep
  have HCAP := Lib.hid hcap
  have HLEN := Lib.hid hlen
  have HLV := Lib.hid hlv
  have HH := Lib.hid h
  rw [hN] at HH hl ⊢
  have HN := Lib.hid hN
  clear hpart hstep hcap hlen hlv h hN hms
  go_enter Try.func80, Try.ntmps80
  go_wp2
  go_loopw [3, 4] (fun v p wr => ∃ j : Nat, p = .int .i64 (j : Int) ∧ j ≤ N ∧ Hid (OwnT 130 wr w.heap.size v ((ms.take j).flatMap lumpM)) ∧ Hid (Below w.heap.size w wr)) (fun _ p _ => N - (intOf p).toNat)
  case atStart => exact ⟨0, rfl, Nat.zero_le _, Lib.hid (World.ownsRow_nil _ _ _ _), Lib.hid (Below.refl _ _)⟩
  case round =>
    obtain ⟨j, rfl, hj, HO, HB⟩ := hrel
    obtain ⟨P1, hP1⟩ : ∃ P, (ms.take j).flatMap lumpM = P := ⟨_, rfl⟩
    rw [hP1] at HO
    obtain ⟨A0, c0, rfl, -, -⟩ := own_form HO.out
    by_cases hlt : j < N
    · have hjl : j < xs.length := by rw [HN.out]; exact hlt
      obtain ⟨b2, off2, rfl, hb2, -, hc2⟩ := (HH.out.below HB.out).at (by omega)
      obtain ⟨e0, e1, e2, e3⟩ := hc2 j hjl
      have e2w := (World.cell?_of_block (a := ⟨b2, off2 + j * 3 + 2, none⟩) (HB.out.block b2 hb2)).symm.trans e2
      have hpj := fun (d k : Nat) => HP.out j d k hjl
      have hsj := HST.out j hjl
      have hlj := (HLV.out xs[j] (List.getElem_mem hjl))
      generalize xs[j].A = t2 at *
      generalize xs[j].c = t4 at *
      obtain ⟨ls, hls⟩ : ∃ ls, xs[j].ls = ls := ⟨_, rfl⟩
      rw [hls] at e2 e3 hpj hsj hlj e2w
      obtain ⟨M, hM⟩ : ∃ M, ls.length = M := ⟨_, rfl⟩
      rw [hP1] at hpj hsj
      obtain ⟨hM60, hml⟩ := hlj
      rw [hM] at hM60 e2 e3 e2w
      have hbb : b2 < wr.heap.size := Nat.lt_of_lt_of_le hb2 HB.out.size
      have HPJ := Lib.hid hpj
      have HSJ := Lib.hid hsj
      have HML := Lib.hid hml
      have HM := Lib.hid hM
      have HL3 := Lib.hid e3
      have HE2 := Lib.hid e2w
      clear hc2 e3 hpj hsj hml hM hls hP1 hjl e0 e1 e2w
      rename World => wo
      go_wp2
      go_loopw [3, 5] (fun v p wr => ∃ (d : Nat) (p' : Int), p = .int .i64 p' ∧ p' = (d : Int) - 1 ∧ d ≤ M ∧ Hid (OwnT 130 wr w.heap.size v (P1 ++ lumpsOf d (ls.drop d))) ∧ Hid (Below w.heap.size w wr)) (fun _ p _ => (intOf p + 1).toNat)
      case atStart => exact ⟨M, (M : Int) - 1, rfl, rfl, Nat.le_refl _, Lib.hid (by have := HO.out; rw [← HM.out, List.drop_length]; simpa [lumpsOf] using this), HB⟩
      case round =>
        clear e2
        obtain ⟨d, p', rfl, hp', hi, HO2, HB2⟩ := hrel
        obtain ⟨P2, hP2⟩ : ∃ P, P1 ++ lumpsOf d (ls.drop d) = P := ⟨_, rfl⟩
        rw [hP2] at HO2
        obtain ⟨A1, c1, rfl, -, -⟩ := own_form HO2.out
        have e2 := (HB2.out.cell (p := ⟨b2, off2 + j * 3 + 2, none⟩) hb2).trans HE2.out
        have hbb2 : b2 < wr.heap.size := Nat.lt_of_lt_of_le hb2 HB2.out.size
        rcases d with _ | i
        · have e : p' = -1 := by omega
          subst e
          have hP3 : (ms.take (j + 1)).flatMap lumpM = P2 := by rw [HSJ.out, ← hP2]; simp
          have HP3 := Lib.hid hP3
          clear hP2 hP3 hp'
          go_wp2
          refine ⟨⟨j + 1, by go_num, hlt, Lib.hid ?_, HB2⟩, by simp [intOf]; omega⟩
          rw [HP3.out]
          exact HO2.out
        · have e : p' = (i : Int) := by omega
          subst e
          clear hp'
          have hit : i < M := by omega
          have hil : i < ls.length := by rw [HM.out]; exact hit
          obtain ⟨b3, off3, rfl, hb3, -, hc3⟩ := (HL3.out.keep fun b hb => (HB2.out.block b hb).trans (HB.out.block b hb).symm).at (by omega)
          obtain ⟨Ai, ci, f0, -, -, f1⟩ := hc3 i hil
          have hpi := fun (k : Nat) => HPJ.out i k hil
          have hsi := lumps_part hil
          have hmi := HML.out i
          rw [lev_lt hil] at hsi hmi
          simp only [lev_lt hil] at hpi
          obtain ⟨l, hle⟩ : ∃ l, ls[i] = l := ⟨_, rfl⟩
          rw [hle] at f0 f1 hpi hsi hmi
          obtain ⟨m, hm⟩ : ∃ m, l.length = m := ⟨_, rfl⟩
          rw [hm] at f0 f1 hmi
          rw [hP2] at hpi
          have f0w := (World.cell?_of_block (a := ⟨b3, off3 + i, none⟩) (HB2.out.block b3 hb3)).symm.trans f0
          have hi60 : i < 60 := by omega
          have HPI := Lib.hid hpi
          have HSI := Lib.hid hsi
          have HP2 := Lib.hid hP2
          have HM2 := Lib.hid hm
          have HL2 := Lib.hid f1
          have HF0 := Lib.hid f0w
          clear hc3 f1 hpi hsi hm hP2 hle hil f0 f0w e2 hbb hbb2
          rename World => wp
          go_wp2
          go_loopw [3, 6] (fun v p wr => ∃ k : Nat, p = .int .i64 (k : Int) ∧ k ≤ m ∧ Hid (OwnT 130 wr w.heap.size v (P2 ++ (l.take k).map (lotOf i))) ∧ Hid (Below w.heap.size w wr)) (fun _ p _ => m - (intOf p).toNat)
          case atStart => exact ⟨0, rfl, Nat.zero_le _, Lib.hid (by have := HO2.out; simpa using this), HB2⟩
          case round =>
            obtain ⟨k, rfl, hk, HO3, HB3⟩ := hrel
            obtain ⟨P3, hP3⟩ : ∃ P, P2 ++ (l.take k).map (lotOf i) = P := ⟨_, rfl⟩
            rw [hP3] at HO3
            obtain ⟨A3, c3, rfl, -, -⟩ := own_form HO3.out
            have e2 := (HB3.out.cell (p := ⟨b2, off2 + j * 3 + 2, none⟩) hb2).trans HE2.out
            have f0 := (HB3.out.cell (p := ⟨b3, off3 + i, none⟩) hb3).trans HF0.out
            have l2 : b2 < wr.heap.size := Nat.lt_of_lt_of_le hb2 HB3.out.size
            have l3 : b3 < wr.heap.size := Nat.lt_of_lt_of_le hb3 HB3.out.size
            by_cases hkt : k < m
            · have hkl : k < l.length := by rw [HM2.out]; exact hkt
              obtain ⟨b4, off4, rfl, hb4, -, hc4⟩ := sp_at (HL2.out.keep fun b hb => (HB3.out.block b hb).trans (HB2.out.block b hb).symm) (by omega)
              obtain ⟨g0, g1⟩ := hc4 k hkl
              have hbd := HPI.out k hkl
              have hnx := map_take1 (lotOf i) hkl
              obtain ⟨x, hx⟩ : ∃ x, l[k] = x := ⟨_, rfl⟩
              rw [hx] at g0 g1 hnx
              have hnx2 : P2 ++ (l.take (k + 1)).map (lotOf i) = (P2 ++ (l.take k).map (lotOf i)) ++ [(x.2, 2 ^ i)] := by rw [hnx, ← List.append_assoc]; rfl
              rw [hP3] at hnx2
              rw [hP3] at hbd
              have hbd2 : P3.length + 1 ≤ 1000000 := Nat.le_trans hbd HCAP.out
              have hbb4 : b4 < wr.heap.size := Nat.lt_of_lt_of_le hb4 HB3.out.size
              have HBD := Lib.hid hbd2
              have HNX := Lib.hid hnx2
              have hu := unit_wrap hi60
              clear hc4 hbd hnx hnx2 hbd2 hP3 hx hkl
              go_upto_region 11 with (fail)
              go_region_law ((refine step_app 130 _ 16 info_lump Try.underlying125 (by rfl) (by decide) (by decide) (by rfl) _ _ (by rfl) w.heap.size _ _ P3 [(x.2, 2 ^ i)] _ (by rfl) (World.ownsRow.alloc (World.ownsRow.drew HO3.out) _) (by rfl) (lit_lump' _ _ _ (by rfl) x.2 (2 ^ i) _ (by first | exact hu | simp)) (sp_one _) (by have := HBD.out; simp; omega) (by have := HB3.out.size; simp; omega) ?_; intro v' w3 ho3 hg3))
              all_goals
                replace ho3 : OwnT 130 w3 w.heap.size v' (P3 ++ [(x.2, 2 ^ i)]) := ho3
                have HO5 := Lib.hid ho3
                have HG5 := Lib.hid hg3
                clear ho3 hg3
                go_wp2
                refine ⟨⟨k + 1, by go_num, hkt, Lib.hid ?_, Lib.hid ?_⟩, by simp [intOf]; omega⟩
                · rw [HNX.out]
                  exact HO5.out
                · exact (HB3.out.drew.alloc (by have := HB3.out.size; simp; omega) _).grown HG5.out (by have := HB3.out.size; simp; omega) (fun q hq => (HO3.out.lt q hq).1)
            · have e : k = m := by omega
              subst e
              rw [List.take_of_length_le (by rw [HM2.out]; exact Nat.le_refl _)] at hP3
              have hP4 : P1 ++ lumpsOf i (ls.drop i) = P3 := by rw [HSI.out, ← List.append_assoc, HP2.out, hP3]
              have HP4 := Lib.hid hP4
              clear hP3 hP4
              go_wp2
              refine ⟨⟨i, (i : Int) - 1, rfl, rfl, by omega, Lib.hid ?_, HB3⟩, by simp [intOf] <;> omega⟩
              rw [HP4.out]
              exact HO3.out
    · have e : j = N := by omega
      subst e
      rw [← HLEN.out, List.take_length] at hP1
      have HP1 := Lib.hid hP1
      clear hP1
      go_wp2
      go_ret
      exact ⟨_, rfl, by rw [HP1.out]; exact HO.out, HB.out⟩

/-! ### least -/

def boolL : Lay Bool := ⟨1, fun b => [.bool b], fun _ => rfl⟩
theorem bool_at {w : World} {B : Nat} {A : Option Addr} {len cap : Nat} {ds : List Bool} (h : Lies boolL w B (.slice A len cap) ds) (h0 : 0 < ds.length) : ∃ b off, A = some ⟨b, off, none⟩ ∧ b < B ∧ len = ds.length ∧ ∀ i (hi : i < ds.length), w.cell? ⟨b, off + i, none⟩ = some (.bool ds[i]) := by
  obtain ⟨b, off, hA, hb, hl, hc⟩ := h.addr h0
  refine ⟨b, off, hA, hb, hl, fun i hi => ?_⟩
  have := hc i hi 0 (.bool ds[i]) rfl
  rw [show i * boolL.size + 0 = i by show i * 1 + 0 = i; omega] at this
  exact this
/-- The least one of the first j of those that are left. -/
def LeastAt (all : List Sp) (done : List Bool) (j : Nat) (a : Int) : Prop :=
  (a = -1 ∧ ∀ i, i < j → done[i]? = some true) ∨ ∃ m : Nat, a = (m : Int) ∧ m < j ∧ done[m]? = some false ∧ ∀ i, i < j → done[i]? = some false → (all.getD m (0, 0)).1 ≤ (all.getD i (0, 0)).1

set_option maxRecDepth 100000 in
set_option maxHeartbeats 4000000 in
theorem leftN_any (all : List Sp) (done : List Bool) (hl : all.length ≤ 1000000) (hd : done.length = all.length) (w : World) (B : Nat) (hB : B ≤ w.heap.size) (A A2 : Option Addr) (c c2 : Nat) (h : Lies spL w B (.slice A all.length c) all) (h2 : Lies boolL w B (.slice A2 done.length c2) done) :
    Calls Try.prog 81 #[.slice A all.length c, .slice A2 done.length c2] w fun e w' => ∃ a : Int, e = .returned (.int .i64 a) ∧ LeastAt all done all.length a ∧ Below w.heap.size w w' := by
  obtain ⟨N, hN⟩ : ∃ N, all.length = N := ⟨_, rfl⟩
  rw [hN] at hd
  have HL := Lib.hid h
  have HD := Lib.hid h2
  rw [hN] at HL hl ⊢
  rw [hd] at HD ⊢
  have HN := Lib.hid hN
  have HN2 := Lib.hid hd
  clear h h2 hN hd
  go_enter Try.func81, Try.ntmps81
  go_wp2
  go_loopw [5, 6] (fun v p wr => ∃ (j : Nat) (a : Int), p = .int .i64 (j : Int) ∧ v = .int .i64 a ∧ j ≤ N ∧ Hid (LeastAt all done j a) ∧ Hid (Below w.heap.size w wr)) (fun _ p _ => N - (intOf p).toNat)
  case atStart => exact ⟨0, -1, rfl, rfl, Nat.zero_le _, Lib.hid (.inl ⟨rfl, fun i hi => absurd hi (by omega)⟩), Lib.hid (Below.refl _ _)⟩
  case round =>
    obtain ⟨j, a, rfl, rfl, hj, HA, HBW⟩ := hrel
    by_cases hlt : j < N
    · have hjl : j < all.length := by rw [HN.out]; exact hlt
      have hjd : j < done.length := by rw [HN2.out]; exact hlt
      obtain ⟨b1, off1, rfl, hb1, -, hc1⟩ := bool_at (HD.out.keep fun b hb => HBW.out.block b (by omega)) (by omega)
      obtain ⟨b2, off2, rfl, hb2, -, hc2⟩ := sp_at (HL.out.keep fun b hb => HBW.out.block b (by omega)) (by omega)
      have d0 := hc1 j hjd
      obtain ⟨e0, -⟩ := hc2 j hjl
      have l1 : b1 < wr.heap.size := Nat.lt_of_lt_of_le (by omega) HBW.out.size
      have l2 : b2 < wr.heap.size := Nat.lt_of_lt_of_le (by omega) HBW.out.size
      have gj : (all.getD j (0, 0)).1 = all[j].1 := by simp [List.getD, List.getElem?_eq_getElem hjl]
      obtain ⟨t, ht⟩ : ∃ t, all[j].1 = t := ⟨_, rfl⟩
      rw [ht] at e0 gj
      have qj : done[j]? = some done[j] := List.getElem?_eq_getElem hjd
      obtain ⟨q, hq⟩ : ∃ q, done[j] = q := ⟨_, rfl⟩
      rw [hq] at d0 qj
      clear ht hq
      cases q with
      | true =>
        have hnext : LeastAt all done (j + 1) a := by
          rcases HA.out with ⟨ea, hall⟩ | ⟨m, ea, hm, hdm, hmin⟩
          · refine .inl ⟨ea, fun i hi => ?_⟩
            rcases Nat.lt_or_ge i j with h | h
            · exact hall i h
            · have e : i = j := by omega
              rw [e]
              exact qj
          · refine .inr ⟨m, ea, by omega, hdm, fun i hi hdi => ?_⟩
            rcases Nat.lt_or_ge i j with h | h
            · exact hmin i h hdi
            · have e : i = j := by omega
              rw [e, qj] at hdi
              cases hdi
        have HNEXT := Lib.hid hnext
        have HBD := Lib.hid fun n => below_drewN HBW.out n
        clear hnext qj gj hc1 hc2
        go_upto_region 5 with (fail)
        go_quiet (fail)
        go_wp2
        exact ⟨⟨j + 1, a, by go_num, rfl, hlt, HNEXT, Lib.hid (HBD.out _)⟩, by simp [intOf]; omega⟩
      | false =>
        rcases HA.out with ⟨rfl, hall⟩ | ⟨m, rfl, hm, hdm, hmin⟩
        · have hnext : LeastAt all done (j + 1) (j : Int) := by
            refine .inr ⟨j, rfl, by omega, qj, fun i hi hdi => ?_⟩
            rcases Nat.lt_or_ge i j with h | h
            · rw [hall i h] at hdi
              cases hdi
            · have e : i = j := by omega
              rw [e]
              exact Nat.le_refl _
          have HNEXT := Lib.hid hnext
          have HBD := Lib.hid fun n => below_drewN HBW.out n
          clear hnext qj gj hc1 hc2 hall HA
          go_upto_region 5 with (fail)
          go_quiet (fail)
          go_wp2
          exact ⟨⟨j + 1, j, by go_num, rfl, hlt, HNEXT, Lib.hid (HBD.out _)⟩, by simp [intOf]; omega⟩
        · have hml : m < all.length := by omega
          have hm0 : decide ((m : Int) < 0) = false := by simp
          have hmN : m < N := by omega
          obtain ⟨f0, -⟩ := hc2 m hml
          have gm : (all.getD m (0, 0)).1 = all[m].1 := by simp [List.getD, List.getElem?_eq_getElem hml]
          obtain ⟨u, hu⟩ : ∃ u, all[m].1 = u := ⟨_, rfl⟩
          rw [hu] at f0 gm
          by_cases htu : t < u
          · have hnext : LeastAt all done (j + 1) (j : Int) := by
              refine .inr ⟨j, rfl, by omega, qj, fun i hi hdi => ?_⟩
              rcases Nat.lt_or_ge i j with h | h
              · have := hmin i h hdi
                omega
              · have e : i = j := by omega
                rw [e]
                exact Nat.le_refl _
            have HNEXT := Lib.hid hnext
            have HBD := Lib.hid fun n => below_drewN HBW.out n
            have hdt : decide (t < u) = true := by simpa using htu
            clear hnext qj gj hc1 hc2 hmin HA hu gm hdm
            go_upto_region 5 with (fail)
            go_quiet (fail)
            go_wp2
            exact ⟨⟨j + 1, j, by go_num, rfl, hlt, HNEXT, Lib.hid (HBD.out _)⟩, by simp [intOf]; omega⟩
          · have hnext : LeastAt all done (j + 1) (m : Int) := by
              refine .inr ⟨m, rfl, by omega, hdm, fun i hi hdi => ?_⟩
              rcases Nat.lt_or_ge i j with h | h
              · exact hmin i h hdi
              · have e : i = j := by omega
                rw [e]
                omega
            have HNEXT := Lib.hid hnext
            have HBD := Lib.hid fun n => below_drewN HBW.out n
            have hdt : decide (t < u) = false := by simpa using htu
            clear hnext qj gj hc1 hc2 hmin HA hu gm hdm htu
            go_upto_region 5 with (fail)
            go_quiet (fail)
            go_wp2
            exact ⟨⟨j + 1, m, by go_num, rfl, hlt, HNEXT, Lib.hid (HBD.out _)⟩, by simp [intOf]; omega⟩
    · have e : j = N := by omega
      subst e
      go_wp2
      go_ret
      exact ⟨_, rfl, HA.out, HBW.out⟩

end Go.Proofs.Ytmdknedngiggdaa
end
section
/- Plain mathematics of the document's With: the least one of those that are left, again and again. -/
namespace Go.Proofs.Lh
open Go.Proofs.Lm (Sp Turn)

/-- Those that are left. -/
def undone : List Sp → List Bool → List Sp
  | [], _ => []
  | _, [] => []
  | x :: xs, d :: ds => if d = true then undone xs ds else x :: undone xs ds
theorem undone_none : ∀ xs : List Sp, undone xs (List.replicate xs.length false) = xs
  | [] => rfl
  | x :: xs => by
    rw [List.length_cons, List.replicate_succ, undone, if_neg (by simp), undone_none xs]
theorem undone_all : ∀ (xs : List Sp) (ds : List Bool), (∀ i, i < xs.length → ds[i]? = some true) → undone xs ds = []
  | [], _, _ => rfl
  | x :: xs, [], h => by have := h 0 (by simp); simp at this
  | x :: xs, d :: ds, h => by
    have h0 := h 0 (by simp)
    simp at h0
    rw [undone, if_pos h0]
    exact undone_all xs ds fun i hi => by have := h (i + 1) (by simpa using hi); simpa using this
theorem undone_set : ∀ (xs : List Sp) (ds : List Bool) (m : Nat), m < xs.length → ds[m]? = some false → (undone xs ds).Perm (xs.getD m (0, 0) :: undone xs (ds.set m true))
  | [], _, m, h, _ => by simp at h
  | x :: xs, [], m, _, h => by simp at h
  | x :: xs, d :: ds, 0, _, h => by
    simp at h
    subst h
    rw [undone, if_neg (by simp), List.set_cons_zero, undone, if_pos rfl]
    exact List.Perm.refl _
  | x :: xs, d :: ds, m + 1, hm, h => by
    have ih := undone_set xs ds m (by simpa using hm) (by simpa using h)
    rw [List.set_cons_succ, undone, undone, List.getD_cons_succ]
    split
    · exact ih
    · exact (ih.cons x).trans (List.Perm.swap _ _ _)
theorem undone_mem : ∀ (xs : List Sp) (ds : List Bool) {y : Sp}, y ∈ undone xs ds → ∃ i, i < xs.length ∧ ds[i]? = some false ∧ xs.getD i (0, 0) = y
  | [], _, _, h => by cases h
  | x :: xs, [], _, h => by cases h
  | x :: xs, d :: ds, y, h => by
    rw [undone] at h
    split at h
    · obtain ⟨i, h1, h2, h3⟩ := undone_mem xs ds h
      exact ⟨i + 1, by simpa using h1, by simpa using h2, by simpa using h3⟩
    · rename_i hd
      rcases List.mem_cons.1 h with rfl | h
      · exact ⟨0, by simp, by simp at hd; simp [hd], by simp⟩
      · obtain ⟨i, h1, h2, h3⟩ := undone_mem xs ds h
        exact ⟨i + 1, by simpa using h1, by simpa using h2, by simpa using h3⟩

/-- How far it has come: seq are those that were picked, in their turn. -/
structure Pick (all seq : List Sp) (D : List Bool) : Prop where
  len : D.length = all.length
  perm : (seq ++ undone all D).Perm all
  turn : seq.Pairwise fun x y => x.1 ≤ y.1
  low : ∀ x ∈ seq, ∀ y ∈ undone all D, x.1 ≤ y.1
theorem Pick.start (all : List Sp) : Pick all [] (List.replicate all.length false) where
  len := by simp
  perm := by rw [undone_none]; exact List.Perm.refl _
  turn := List.Pairwise.nil
  low x hx := by cases hx
/-- There is one that is left. -/
theorem Pick.left {all seq : List Sp} {D : List Bool} (h : Pick all seq D) (hs : seq.length < all.length) : ¬ ∀ i, i < all.length → D[i]? = some true := by
  intro hh
  have e := undone_all all D hh
  have := h.perm.length_eq
  rw [e] at this
  simp at this
  omega
theorem Pick.done {all seq : List Sp} {D : List Bool} (h : Pick all seq D) (hs : seq.length = all.length) : seq.Perm all := by
  have e := h.perm.length_eq
  rw [List.length_append] at e
  have e2 : undone all D = [] := List.eq_nil_of_length_eq_zero (by omega)
  have := h.perm
  rw [e2, List.append_nil] at this
  exact this
def foldL (k : Nat) (seq : List Sp) : Lv := seq.foldl (fun L x => addW k L x.1 x.2) []
theorem foldL_snoc (k : Nat) (seq : List Sp) (x : Sp) : foldL k (seq ++ [x]) = addW k (foldL k seq) x.1 x.2 := by
  unfold foldL
  rw [List.foldl_append]
  rfl
theorem Pick.next {all seq : List Sp} {D : List Bool} {k : Nat} (h : Pick all seq D) (hF : ∀ L : List Sp, L.Perm all → (L.Pairwise fun x y => x.1 ≤ y.1) → Fine k L) {m : Nat} (hml : m < all.length) (hm : D[m]? = some false)
    (hmin : ∀ i, i < all.length → D[i]? = some false → (all.getD m (0, 0)).1 ≤ (all.getD i (0, 0)).1) :
    Pick all (seq ++ [all.getD m (0, 0)]) (D.set m true) ∧ code (foldL k seq) (all.getD m (0, 0)).1 (all.getD m (0, 0)).2 = 0 ∧ Made k (foldL k seq) ∧ (all.getD m (0, 0)).2 ≤ 4503599627370496 := by
  obtain ⟨x, hx⟩ : ∃ x, all.getD m (0, 0) = x := ⟨_, rfl⟩
  have hset := undone_set all D m hml hm
  rw [hx] at hset hmin ⊢
  obtain ⟨U, hU⟩ : ∃ U, undone all (D.set m true) = U := ⟨_, rfl⟩
  rw [hU] at hset
  have hxU : x ∈ undone all D := hset.mem_iff.2 List.mem_cons_self
  have hUx : ∀ y ∈ U, x.1 ≤ y.1 := by
    intro y hy
    have hy' : y ∈ undone all D := hset.mem_iff.2 (List.mem_cons_of_mem _ hy)
    obtain ⟨i, h1, h2, h3⟩ := undone_mem all D hy'
    have := hmin i h1 h2
    rw [h3] at this
    exact this
  have hturn : (seq ++ [x]).Pairwise fun x y => x.1 ≤ y.1 := by
    rw [List.pairwise_append]
    refine ⟨h.turn, List.pairwise_singleton _ _, fun a ha b hb => ?_⟩
    rw [List.mem_singleton.1 hb]
    exact h.low a ha x hxU
  have hp : (seq ++ [x] ++ U).Perm all := by
    refine List.Perm.trans ?_ h.perm
    rw [List.append_assoc]
    exact (List.Perm.refl seq).append hset.symm
  have hlow : ∀ a ∈ seq ++ [x], ∀ y ∈ U, a.1 ≤ y.1 := by
    intro a ha y hy
    rcases List.mem_append.1 ha with ha | ha
    · exact h.low a ha y (hset.mem_iff.2 (List.mem_cons_of_mem _ hy))
    · rw [List.mem_singleton.1 ha]
      exact hUx y hy
  obtain ⟨V, hV1, hV2⟩ := sorted_ex U
  have hf := hF (seq ++ [x] ++ V) (((List.Perm.refl _).append hV1).trans hp) (by
    rw [List.pairwise_append]
    exact ⟨hturn, hV2, fun a ha y hy => hlow a ha y (hV1.mem_iff.1 hy)⟩)
  have hl : seq.length < (seq ++ [x] ++ V).length := by simp
  have hc := hf.code hl
  have hm2 := hf.made seq.length
  have hb := mem_bound (all := seq ++ [x] ++ V) (x := x) (by simp)
  have e1 : upTo k (seq ++ [x] ++ V) seq.length = foldL k seq := by
    unfold upTo foldL
    rw [List.append_assoc, List.take_left]
  have e2 : (seq ++ [x] ++ V)[seq.length] = x := by simp
  rw [e1] at hm2
  rw [e1, e2] at hc
  exact ⟨⟨by rw [List.length_set]; exact h.len, by rw [hU]; exact hp, hturn, by rw [hU]; exact hlow⟩, hc, hm2, Nat.le_trans hb hf.small⟩
end Go.Proofs.Lh
end
