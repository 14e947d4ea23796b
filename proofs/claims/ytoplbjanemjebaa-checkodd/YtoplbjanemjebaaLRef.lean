/- The contracts of the document's own level (skylightref05). -/
import Derived.BigQuiet
import Derived.Deep.CutRange
import Derived.Test.YtoplbjanemjebaaPush
namespace Go.Proofs.Ytoplbjanemjebaa
open Go.RowKit Go.Proofs.Rw
open Go.Proofs.Lm (el two pairs wentN stayN leftN went stay)

theorem rMost_any (k i : Int) (hk : k ≤ 9223372036854775806) (w : World) :
    Calls Try.prog 36 #[.int .i64 k, .int .i64 i] w fun e w' => e = .returned (.int .i64 (leastI k i + 1)) ∧ w = w' := by
  unfold leastI
  by_cases h0 : 0 ≤ k
  · by_cases hi : i = 0
    · subst hi
      rw [if_pos rfl]
      go_enter Try.func36, Try.ntmps36
      go_wp2
      go_ret
      exact ⟨ret_i (by omega), rfl⟩
    · rw [if_neg hi]
      have hb : (i == 0) = false := by simpa using hi
      go_enter Try.func36, Try.ntmps36
      go_wp2
      go_ret
      exact ⟨ret_i (by omega), rfl⟩
  · by_cases hi : i = 0
    · subst hi
      rw [if_pos rfl]
      go_enter Try.func36, Try.ntmps36
      go_wp2
      go_ret
      exact ⟨ret_i (by omega), rfl⟩
    · rw [if_neg hi]
      have hb : (i == 0) = false := by simpa using hi
      go_enter Try.func36, Try.ntmps36
      go_wp2
      go_ret
      exact ⟨ret_i (by omega), rfl⟩
theorem rLeast_any (k i : Int) (hk : k ≤ 9223372036854775806) (w : World) :
    Calls Try.prog 42 #[.int .i64 k, .int .i64 i] w fun e w' => e = .returned (.int .i64 (leastI k i)) ∧ w = w' := by
  have m1 := fun W => rMost_any k i hk W
  obtain ⟨h0, h1⟩ := leastI_le k i hk
  generalize leastI k i = m at *
  have M1 := Lib.hid m1
  clear m1
  go_enter Try.func42, Try.ntmps42
  go_wp2_with (go_at_call 36; (with_reducible refine (M1.out _).mono ?_); rintro e wn ⟨rfl, rfl⟩)
  go_ret
  exact ⟨ret_i (by omega), rfl⟩

/-- An own row's block holds buckets. -/
theorem own_ty {w : World} {base b : Nat} {v : Value} {xs : List Sp} (h : Own w base v xs) (hb : v.ownBlock = some b) : ∃ cur, w.heap[b]? = some (.cells cur 44 (0, 0)) := by
  rcases h.2 with ⟨rfl, _⟩ | ⟨g', cap, cur, rfl, _, hgb, _⟩
  · cases hb
  · injection hb with hb
    have : g' = b := hb
    subst this
    exact ⟨cur, hgb⟩
/-- One bucket, new in memory. -/
theorem lit1 (W : World) (n : Nat) (hn : W.heap.size = n) (a b : Nat) : Lies spL (W.alloc (.cells #[.int .u64 a, .int .u64 b] 44)) (n + 1) (.slice (some ⟨n, 0, none⟩) 1 1) [(a, b)] := by
  subst hn
  refine ⟨_, 1, rfl, by simp, by unfold maxLen; omega, .inr ⟨W.heap.size, 0, by omega, rfl, fun j u hu => ?_⟩⟩
  rw [World.cell?_alloc_at _ _ _ _ rfl]
  simp only [Lay.cells, spL, List.flatMap_cons, List.flatMap_nil, List.append_nil] at hu
  simpa using hu
theorem lit0 (W : World) (base : Nat) (hb : base ≤ W.heap.size) : Own (W.alloc (.cells #[] 44)) base (.slice (some ⟨W.heap.size, 0, none⟩) 0 0) [] :=
  own_new (L := spL) W 44 #[] 0 base [] rfl rfl hb (by unfold maxLen; omega)

/-- What 'Push' tells: two rows, and a number. -/
def RPushed (w w' : World) (e : Ending) (stays wents : List Sp) (k : Nat) : Prop :=
  ∃ v1 v2, e = .returned (.tuple #[v1, v2, .int .u64 (k : Int)]) ∧ Lies spL w' w'.heap.size v1 stays ∧ Lies spL w' w'.heap.size v2 wents ∧ Below w.heap.size w w'

/-- The same, and that both rows are new. -/
def RPushed2 (w w' : World) (e : Ending) (stays wents : List Sp) (k : Nat) : Prop :=
  ∃ v1 v2, e = .returned (.tuple #[v1, v2, .int .u64 (k : Int)]) ∧ Lies spL w' w'.heap.size v1 stays ∧ Lies spL w' w'.heap.size v2 wents ∧ Below w.heap.size w w' ∧ ∀ b, v1.ownBlock = some b ∨ v2.ownBlock = some b → w.heap.size ≤ b ∧ ∃ (cs : Array Value) (fr : Nat × Nat), w'.heap[b]? = some (.cells cs 44 fr)

set_option maxRecDepth 100000 in
set_option maxHeartbeats 4000000 in
theorem rPush_any2 (l add : List Sp) (most : Int) (many t : Nat) (hl : l.length + add.length ≤ 1000000) (hm : most ≤ 1000000) (hmany : many ≤ 4611686018427387904) (w : World) (A1 A2 : Option Addr) (c1 c2 : Nat)
    (h1 : Lies spL w w.heap.size (.slice A1 l.length c1) l) (h2 : Lies spL w w.heap.size (.slice A2 add.length c2) add) :
    Calls Try.prog 34 #[.slice A1 l.length c1, .int .i64 most, .slice A2 add.length c2, .int .u64 many, .int .u64 t] w fun e w' => RPushed2 w w' e (stay (l ++ add) t many (roomOf most)) (went (l ++ add) t many (roomOf most)) (leftN (l ++ add).length many (roomOf most)) := by
  obtain ⟨room, hroom⟩ : ∃ r, roomOf most = r := ⟨_, rfl⟩
  have hr0 : max most 1 = (room : Int) := by unfold roomOf at hroom; omega
  have hr2 : 1 ≤ room := by unfold roomOf at hroom; omega
  have hr3 : room ≤ 1000000 := by unfold roomOf at hroom; omega
  obtain ⟨xs, hxs⟩ : ∃ xs, l ++ add = xs := ⟨_, rfl⟩
  have hxl : xs.length ≤ 1000000 := by rw [← hxs, List.length_append]; exact hl
  obtain ⟨P, hP⟩ : ∃ p, pairs xs.length many room = p := ⟨_, rfl⟩
  obtain ⟨S, hS⟩ : ∃ s, stayN xs.length many room = s := ⟨_, rfl⟩
  obtain ⟨g, hg⟩ : ∃ g, wentN xs.length many room = g := ⟨_, rfl⟩
  have hSl : S ≤ 1000000 := by have := Lm.stayN_le (n := xs.length) (many := many) (room := room); omega
  have hgl : g ≤ 1000000 := by have := Lm.wentN_half xs.length many room; omega
  have hPS : 2 * P + S = xs.length + many := by
    have e1 := Lm.pairs_le (n := xs.length) (many := many) hr2
    have e2 : stayN xs.length many room = xs.length + many - 2 * pairs xs.length many room := rfl
    omega
  have hgP : g = min P ((xs.length + 1) / 2) := by rw [← hg, ← hP]; rfl
  have hPe : P = (xs.length + many - room + 1) / 2 := hP.symm
  rw [hroom, hxs]
  have HR0 := Lib.hid hr0
  have HXS := Lib.hid hxs
  have HP := Lib.hid hP
  have HS := Lib.hid hS
  have HGG := Lib.hid hg
  have HPS := Lib.hid hPS
  have HGP := Lib.hid hgP
  have HPE := Lib.hid hPe
  have H1 := Lib.hid h1
  have H2 := Lib.hid h2
  clear hr0 hxs hP hS hg hPS hgP hPe hroom h1 h2
  go_enter Try.func34, Try.ntmps34
  go_upto_region 1 with (fail)
  go_cut [1, 24] from 24 to 24 (fun s1 _ wx => s1 = .int .i64 room ∧ w = wx)
  case first =>
    by_cases h : 1 ≤ most
    · go_wp2
      go_meet
      case rel => exact ⟨by have := HR0.out; congr 1; omega, rfl⟩
    · go_wp2
      go_meet
      case rel => exact ⟨by have := HR0.out; congr 1; omega, rfl⟩
  case rest =>
    obtain ⟨rfl, rfl⟩ := hcut
    clear HR0 hm
    go_upto_region 3 with (at_builtin; refine wpList_app 44 _ 16 info_sp Try.underlying45 rfl (by decide) (by decide) _ rfl _ _ rfl w.heap.size _ _ [] l w.heap.size rfl (lit0 w w.heap.size (Nat.le_refl _)) rfl (H1.out.alloc (Nat.le_refl _) _) (sp_one _) (by simp; omega) (by simp) ?_; intro va w1 ho1 hg1; replace ho1 : Own w1 w.heap.size va l := ho1; obtain ⟨Aa, ca, rfl, _, _⟩ := own_form ho1; have HO1 := Lib.hid ho1; have HB1 := Lib.hid (((Below.refl _ w).alloc (Nat.le_refl _) _).grown hg1 (by simp) (fun k hk => (World.ownsRow.lt (lit0 w w.heap.size (Nat.le_refl _)) k hk).1)); clear ho1 hg1)
    go_upto_region 4 with (at_builtin; refine wpList_app 44 _ 16 info_sp Try.underlying45 rfl (by decide) (by decide) _ rfl _ _ rfl w.heap.size _ _ l add w.heap.size rfl HO1.out rfl (H2.out.below HB1.out) (sp_one _) (by omega) HB1.out.size ?_; intro vb w2 ho2 hg2; rw [HXS.out] at ho2; replace ho2 : Own w2 w.heap.size vb xs := ho2; obtain ⟨Ab, cb, rfl, hbl, hbm⟩ := own_form ho2; have HO2 := Lib.hid ho2; have HB2 := Lib.hid (HB1.out.grown hg2 HB1.out.size (fun k hk => (HO1.out.lt k hk).1)); have HBM := Lib.hid hbm; clear ho2 hg2 hbm)
    clear HO1 HB1 H1 H2
    have HL := Lib.hid (Lies.of_own (L := spL) HO2.out)
    clear HO2
    go_upto_if 40 with (fail)
    go_cut [15] from 23 to 46 (fun s15 wx => s15 = .int .u64 P ∧ w2 = wx)
    case first =>
      by_cases h : (room : Int) < xs.length + many
      · have b1 : (0 : Int) ≤ (xs.length : Int) + many - room := by omega
        have b2 : (xs.length : Int) + many - room ≤ 18446744073709551614 := by omega
        go_wp2
        go_meet
        case rel => exact ⟨by have := HPE.out; congr 1; omega, rfl⟩
      · have hb : decide ((room : Int) < xs.length + many) = false := by simpa using h
        go_wp2
        go_meet
        case rel => exact ⟨by have := HPE.out; congr 1; omega, rfl⟩
    case rest =>
      obtain ⟨rfl, rfl⟩ := hcut
      have hPb : P ≤ 4611686018427887904 := by have := HPE.out; omega
      have hPS1 : 2 * P ≤ xs.length + many := by have := HPS.out; omega
      clear HPE
      go_wp2
      go_loopw [17, 18] (fun v j wr => ∃ k : Nat, j = .int .u64 k ∧ k ≤ g ∧ Own wr w2.heap.size v ((List.range k).map (two xs t)) ∧ Below w2.heap.size w2 wr) (fun _ j _ => g - (intOf j).toNat)
      case atStart => exact ⟨0, rfl, Nat.zero_le _, World.ownsRow_nil _ _ _ _, Below.refl _ _⟩
      case round =>
        obtain ⟨k, rfl, hk, hown, hbel⟩ := hrel
        have HOWN := Lib.hid hown
        have HBEL := Lib.hid hbel
        have hgp := HGP.out
        by_cases hlt : k < g
        · have d1 : k < P := by omega
          have d2 : 2 * k < xs.length := by omega
          obtain ⟨b, off, rfl, hb, _, hcell⟩ := sp_at (HL.out.below hbel) (by omega)
          have hbs : b < wr.heap.size := Nat.lt_of_lt_of_le hb hbel.size
          obtain ⟨q0, _⟩ := hcell (2 * k) d2
          have hx1 : el xs t (2 * k) = xs[2 * k] := Lm.el_lt d2
          by_cases hl2 : 2 * k + 1 < xs.length
          · obtain ⟨_, q1⟩ := hcell (2 * k + 1) hl2
            have hx2 : el xs t (2 * k + 1) = xs[2 * k + 1] := Lm.el_lt hl2
            have htwo : two xs t k = (xs[2 * k].1, xs[2 * k + 1].2) := by unfold two; rw [hx1, hx2]
            generalize xs[2 * k] = x at *
            generalize xs[2 * k + 1] = y at *
            have HT := Lib.hid htwo
            clear hown hbel hgp hcell hx1 hx2 htwo
            go_wp2_with (at_builtin; refine wpList_app 44 _ 16 info_sp Try.underlying45 rfl (by decide) (by decide) _ rfl _ _ rfl w2.heap.size _ _ ((List.range k).map (two xs t)) [(x.1, y.2)] _ rfl (HOWN.out.alloc _) rfl (lit1 _ _ rfl x.1 y.2) (sp_one _) (by simp; omega) (by have := HBEL.out.size; simp; omega) ?_; intro v' w3 ho3 hg3; have HO3 := Lib.hid ho3; have HG3 := Lib.hid hg3; clear ho3 hg3)
            refine ⟨⟨k + 1, by go_num, hlt, ?_, (HBEL.out.alloc HBEL.out.size _).grown HG3.out (by have := HBEL.out.size; simp; omega) (fun j hj => (HOWN.out.lt j hj).1)⟩, by simp [intOf]; omega⟩
            have ho := HO3.out
            rw [← HT.out, ← Lm.range_snoc] at ho
            exact ho
          · have hx2 : el xs t (2 * k + 1) = (t, t) := Lm.el_ge (by omega)
            have htwo : two xs t k = (xs[2 * k].1, t) := by unfold two; rw [hx1, hx2]
            generalize xs[2 * k] = x at *
            have HT := Lib.hid htwo
            clear hown hbel hgp hcell hx1 hx2 htwo
            go_wp2_with (at_builtin; refine wpList_app 44 _ 16 info_sp Try.underlying45 rfl (by decide) (by decide) _ rfl _ _ rfl w2.heap.size _ _ ((List.range k).map (two xs t)) [(x.1, t)] _ rfl (HOWN.out.alloc _) rfl (lit1 _ _ rfl x.1 t) (sp_one _) (by simp; omega) (by have := HBEL.out.size; simp; omega) ?_; intro v' w3 ho3 hg3; have HO3 := Lib.hid ho3; have HG3 := Lib.hid hg3; clear ho3 hg3)
            refine ⟨⟨k + 1, by go_num, hlt, ?_, (HBEL.out.alloc HBEL.out.size _).grown HG3.out (by have := HBEL.out.size; simp; omega) (fun j hj => (HOWN.out.lt j hj).1)⟩, by simp [intOf]; omega⟩
            have ho := HO3.out
            rw [← HT.out, ← Lm.range_snoc] at ho
            exact ho
        · have hkg : k = g := by omega
          rename World => wo
          clear hown hbel
          go_upto_region 11 with (fail)
          go_cut [55] from 47 to 82 (fun s55 wx => s55 = .bool false ∧ wo = wx)
          case first =>
            by_cases hkP : k < P
            · have d2 : decide (2 * (k : Int) < (xs.length : Int)) = false := by simp; omega
              clear hgp hkg
              go_wp2
              go_meet
              case rel => exact ⟨by first | rfl | exact congrArg Value.bool d2, rfl⟩
            · clear hgp hkg
              go_wp2
              go_meet
              case rel => exact ⟨rfl, rfl⟩
          case rest =>
            obtain ⟨rfl, rfl⟩ := hcut
            subst hkg
            have hkP : k ≤ P := by omega
            obtain ⟨Av, cv, rfl, _, _⟩ := own_form HOWN.out
            clear hgp HGP hlt hk
            have HBEW := Lib.hid (thn HB2.out HBEL.out)
            go_wp2
            go_loopw [21, 22] (fun v j wr => ∃ i : Nat, j = .int .u64 (2 * (P : Int) + (i : Int)) ∧ i ≤ S ∧ Own wr wo.heap.size v ((List.range i).map fun i => el xs t (2 * P + i)) ∧ Below wo.heap.size wo wr) (fun _ j _ => S - ((intOf j).toNat - 2 * P))
            case atStart => exact ⟨0, by simp, Nat.zero_le _, World.ownsRow_nil _ _ _ _, Below.refl _ _⟩
            case round =>
              obtain ⟨i, rfl, hi, how2, hbe2⟩ := hrel
              have HOW2 := Lib.hid how2
              have HBE2 := Lib.hid hbe2
              have hps := HPS.out
              by_cases hlt : i < S
              · have d1 : 2 * (P : Int) + i < (xs.length : Int) + many := by omega
                by_cases hl2 : 2 * P + i < xs.length
                · have hL2 := HL.out.below (thn HBEL.out hbe2)
                  obtain ⟨b, off, rfl, hb, _, hcell⟩ := sp_at hL2 (by omega)
                  have hbs : b < wr.heap.size := Nat.lt_of_lt_of_le hb (thn HBEL.out hbe2).size
                  obtain ⟨q0, q1⟩ := hcell (2 * P + i) hl2
                  have hx : (xs[2 * P + i].1, xs[2 * P + i].2) = el xs t (2 * P + i) := (Lm.el_lt hl2).symm
                  have hti : (2 * (P : Int) + i).toNat = 2 * P + i := by omega
                  have d2 : 2 * (P : Int) + i < (xs.length : Int) := by omega
                  generalize xs[2 * P + i] = x at *
                  have HT := Lib.hid hx
                  clear how2 hbe2 hcell hx hps hL2
                  go_wp2_with (at_builtin; refine wpList_app 44 _ 16 info_sp Try.underlying45 rfl (by decide) (by decide) _ rfl _ _ rfl wo.heap.size _ _ ((List.range i).map fun i => el xs t (2 * P + i)) [(x.1, x.2)] _ rfl (HOW2.out.alloc _) rfl (lit1 _ _ rfl x.1 x.2) (sp_one _) (by simp; omega) (by have := HBE2.out.size; simp; omega) ?_; intro v' w3 ho3 hg3; have HO3 := Lib.hid ho3; have HG3 := Lib.hid hg3; clear ho3 hg3)
                  refine ⟨⟨i + 1, by omega, hlt, ?_, (HBE2.out.alloc HBE2.out.size _).grown HG3.out (by have := HBE2.out.size; simp; omega) (fun j hj => (HOW2.out.lt j hj).1)⟩, by simp [intOf]; omega⟩
                  have ho := HO3.out
                  rw [HT.out, ← Lm.range_snoc (fun i => el xs t (2 * P + i))] at ho
                  exact ho
                · have hx : (t, t) = el xs t (2 * P + i) := (Lm.el_ge (by omega)).symm
                  have HT := Lib.hid hx
                  have d2 : ¬ (2 * (P : Int) + i < (xs.length : Int)) := by omega
                  clear how2 hbe2 hx hps
                  go_wp2_with (at_builtin; refine wpList_app 44 _ 16 info_sp Try.underlying45 rfl (by decide) (by decide) _ rfl _ _ rfl wo.heap.size _ _ ((List.range i).map fun i => el xs t (2 * P + i)) [(t, t)] _ rfl (HOW2.out.alloc _) rfl (lit1 _ _ rfl t t) (sp_one _) (by simp; omega) (by have := HBE2.out.size; simp; omega) ?_; intro v' w3 ho3 hg3; have HO3 := Lib.hid ho3; have HG3 := Lib.hid hg3; clear ho3 hg3)
                  refine ⟨⟨i + 1, by omega, hlt, ?_, (HBE2.out.alloc HBE2.out.size _).grown HG3.out (by have := HBE2.out.size; simp; omega) (fun j hj => (HOW2.out.lt j hj).1)⟩, by simp [intOf]; omega⟩
                  have ho := HO3.out
                  rw [HT.out, ← Lm.range_snoc (fun i => el xs t (2 * P + i))] at ho
                  exact ho
              · have e : i = S := by omega
                subst e
                have d1 : ¬ (2 * (P : Int) + i < (xs.length : Int) + many) := by omega
                clear how2 hbe2 hps
                go_wp2
                have o1 := HOW2.out
                have o2 := HOWN.out
                have e1 : ((List.range i).map fun i => el xs t (2 * P + i)) = stay xs t many room := by unfold stay; rw [HP.out, HS.out]
                have e2 : (List.range k).map (two xs t) = went xs t many room := by unfold went; rw [HGG.out]
                have e3 : ((P : Int) - k) = (leftN xs.length many room : Nat) := by unfold leftN; rw [HP.out, HGG.out]; omega
                have o3 := (Lies.of_own (L := spL) o2).grow HBE2.out
                have o4 := Lies.of_own (L := spL) o1
                rw [e1] at o4
                rw [e2, show (went xs t many room).length = k from by rw [Lm.went_len, HGG.out]] at o3
                refine bodyPost_ret (results_tmp3 rfl _ _ _) rfl ⟨_, _, ?_, o4, o3, thn HBEW.out HBE2.out, ?_⟩
                · rw [← e3]
                  rfl
                · have z1 := HBEW.out.size
                  have z2 := HB2.out.size
                  intro b hb
                  rcases hb with hb | hb
                  · have := (o1.lt b hb).1
                    obtain ⟨cs, hcs⟩ := own_ty o1 hb
                    exact ⟨by omega, cs, _, hcs⟩
                  · have hb' : (Value.slice Av (List.map (two xs t) (List.range k)).length cv).ownBlock = some b := by rw [List.length_map, List.length_range]; exact hb
                    have hlt := HOWN.out.lt b hb'
                    obtain ⟨cs, hcs⟩ := own_ty HOWN.out hb'
                    exact ⟨by omega, cs, _, (HBE2.out.block b hlt.2).trans hcs⟩

theorem rPush_any (l add : List Sp) (most : Int) (many t : Nat) (hl : l.length + add.length ≤ 1000000) (hm : most ≤ 1000000) (hmany : many ≤ 4611686018427387904) (w : World) (A1 A2 : Option Addr) (c1 c2 : Nat)
    (h1 : Lies spL w w.heap.size (.slice A1 l.length c1) l) (h2 : Lies spL w w.heap.size (.slice A2 add.length c2) add) :
    Calls Try.prog 34 #[.slice A1 l.length c1, .int .i64 most, .slice A2 add.length c2, .int .u64 many, .int .u64 t] w fun e w' => RPushed w w' e (stay (l ++ add) t many (roomOf most)) (went (l ++ add) t many (roomOf most)) (leftN (l ++ add).length many (roomOf most)) :=
  (rPush_any2 l add most many t hl hm hmany w A1 A2 c1 c2 h1 h2).mono fun _ _ ⟨v1, v2, a, b, c, d, _⟩ => ⟨v1, v2, a, b, c, d⟩

theorem below_drewN {B : Nat} {a w : World} (h : Below B a w) (n : Nat) : Below B a (w.drewN n) := ⟨h.os, h.tape, h.output, h.size, h.block⟩

end Go.Proofs.Ytoplbjanemjebaa
