/- The contract of hist.Add: the walks. -/
import Derived.Test.YtafcgfhkeceiaaaHAdd
import Derived.Test.YtafcgfhkeceiaaaHSame2
namespace Go.Proofs.Ytafcgfhkeceiaaa
open Go.RowKit Go.Shelf Go.Proofs.Rw Go.Proofs.Lh Go.Proofs.Rn

attribute [local go_sem] Oper.semAt_some

theorem set3 {W : World} {b : Nat} {x y z : Value} {T : TypeId} (h : W.heap[b]? = some (.cells #[x, y, z] T)) (x' y' z' : Value) :
    (((W.setCell ⟨b, 0, none⟩ x').setCell ⟨b, 1, none⟩ y').setCell ⟨b, 2, none⟩ z').heap[b]? = some (.cells #[x', y', z'] T) := by
  rw [set1 _ (set1 _ (set1 _ h))]
  rfl
theorem below3 {W : World} {b B : Nat} {w : World} (h : Below B w W) (hb : B ≤ b) (x' y' z' : Value) : Below B w (((W.setCell ⟨b, 0, none⟩ x').setCell ⟨b, 1, none⟩ y').setCell ⟨b, 2, none⟩ z') :=
  ((h.setCell (p := ⟨b, 0, none⟩) hb _).setCell (p := ⟨b, 1, none⟩) hb _).setCell (p := ⟨b, 2, none⟩) hb _
theorem grown3 {W : World} {b : Nat} (x' y' z' : Value) : W.grownBy (((W.setCell ⟨b, 0, none⟩ x').setCell ⟨b, 1, none⟩ y').setCell ⟨b, 2, none⟩ z') (some b) :=
  grown_trans (grown_trans (grown_set _ _ _ _) (grown_set _ _ _ _)) (grown_set _ _ _ _)
theorem may_of {k : Nat} (h2 : 2 ≤ k) (h1 : k ≤ 1024) : may (k : Int) = true := by
  unfold may
  rw [decide_eq_true_iff]
  omega

set_option maxHeartbeats 1000000 in
theorem add_bad (k : Nat) (g : Int) (ls : Lv) (hmd : Made k ls) (t n0 : Nat) (hn : n0 < 18446744073709551616) (hc : code ls t n0 ≠ 0) (w : World) (A : Option Addr) (c : Nat) (h : Levs w w.heap.size (.slice A ls.length c) ls) :
    Calls Try.prog 19 #[hv k g (.slice A ls.length c), .int .u64 t, .int .u64 n0] w fun e w' => e = hret (hv 0 0 (.slice none 0 0)) (code ls t n0 : Int) ∧ Below w.heap.size w w' := by
  have hb0 : Below w.heap.size w ((w.alloc (.cells #[.int .i64 k, .int .i64 g, .slice A ls.length c] 31)).alloc (.cells #[.int .i64 0, .int .i64 0, .slice none 0 0] 31)) := ((Below.refl _ w).alloc (Nat.le_refl _) _).alloc (by simp) _
  have hrf := refusal_any k g (may_of hmd.k2 hmd.k1) ls (by have := hmd.len; omega) hmd.small (by have := hmd.lev 0; omega) t n0 hn _ A c (h.grow hb0)
  obtain ⟨C, hC⟩ : ∃ C, code ls t n0 = C := ⟨_, rfl⟩
  rw [hC] at hc hrf ⊢
  have HRF := Lib.hid hrf
  have HB0 := Lib.hid hb0
  have hp : ((w.alloc (.cells #[.int .i64 k, .int .i64 g, .slice A ls.length c] 31)).alloc (.cells #[.int .i64 0, .int .i64 0, .slice none 0 0] 31)).heap[w.heap.size + 1]? = some (.cells #[.int .i64 0, .int .i64 0, .slice none 0 0] 31) := by
    have := heap_alloc_new (w.alloc (.cells #[.int .i64 k, .int .i64 g, .slice A ls.length c] 31)) (.cells #[.int .i64 0, .int .i64 0, .slice none 0 0] 31)
    simpa using this
  have HP := Lib.hid hp
  have d0 : ((C : Int) != 0) = true := by simp; omega
  clear hrf hb0 hmd h hC hp
  go_enter Try.func19, Try.ntmps19
  go_wp2_with (go_at_call 29; refine HRF.out.mono ?_; rintro e w1 ⟨rfl, hb1⟩; have hq := (hb1.block (w.heap.size + 1) (by simp)).trans HP.out; obtain ⟨q0, q1, q2⟩ := box3 hq; have f0 : ∀ i, w1.frozen? ⟨w.heap.size + 1, i, none⟩ = false := (fun i => by simp [World.frozen?, hq]); have hlt := lt_of hq; have HB1 := Lib.hid hb1; have HQ := Lib.hid hq; clear hb1 hq)
  obtain ⟨r0, r1, r2⟩ := box3 (set3 HQ.out (.int .i64 0) (.int .i64 0) (.slice none 0 0))
  refine bodyPost_ret (v := .tuple #[hv 0 0 (.slice none 0 0), .int .i64 C]) (by simp [results, Try.results19, go_sem, r0, r1, r2]) rfl ⟨rfl, below3 (thn HB0.out HB1.out) (by simp) _ _ _⟩

set_option maxRecDepth 100000 in
set_option maxHeartbeats 4000000 in
theorem addR_in (n : Nat) (hn3 : 3 ≤ n) (k : Nat) (g : Int) (ls : Lv) (hmd : Made k ls) (t n0 : Nat) (hn : n0 < 18446744073709551616) (hc : code ls t n0 = 0) (w : World) (A : Option Addr) (c : Nat) (h : Levs w w.heap.size (.slice A ls.length c) ls) :
    CallsIn Fence.wide n Try.prog 19 #[hv k g (.slice A ls.length c), .int .u64 t, .int .u64 n0] w fun e w' => ∃ v, e = hret (hv k g v) 0 ∧ Levs w' w'.heap.size v (addW k ls t n0) ∧ Below w.heap.size w w' := by
  have h1 : 1 ≤ n := by omega
  have hb0 : Below w.heap.size w ((w.alloc (.cells #[.int .i64 k, .int .i64 g, .slice A ls.length c] 31)).alloc (.cells #[.int .i64 0, .int .i64 0, .slice none 0 0] 31)) := ((Below.refl _ w).alloc (Nat.le_refl _) _).alloc (by simp) _
  have hrf := refusal_any k g (may_of hmd.k2 hmd.k1) ls (by have := hmd.len; omega) hmd.small (by have := hmd.lev 0; omega) t n0 hn _ A c (h.grow hb0)
  rw [hc] at hrf
  have hn0 : n0 ≤ 4503599627370496 := by
    unfold code at hc
    split at hc
    · omega
    split at hc
    · omega
    split at hc
    · omega
    omega
  have hm2 := hmd.add hc
  obtain ⟨R, hR⟩ : ∃ R, addW k ls t n0 = R := ⟨_, rfl⟩
  rw [hR] at hm2 ⊢
  have hRl : R.length ≤ 1000 := by have := hm2.len; omega
  have hll : ls.length ≤ 1000 := by have := hmd.len; omega
  obtain ⟨N, hN⟩ : ∃ N, ls.length = N := ⟨_, rfl⟩
  have hcl := fun (W : World) (hW : Below w.heap.size w W) => clone_any ls W w.heap.size hW.size A c (h.below hW) (by omega)
  have hp0 : ((w.alloc (.cells #[.int .i64 k, .int .i64 g, .slice A ls.length c] 31)).alloc (.cells #[.int .i64 0, .int .i64 0, .slice none 0 0] 31)).heap[w.heap.size]? = some (.cells #[.int .i64 k, .int .i64 g, .slice A ls.length c] 31) := by
    rw [Below.heap_alloc _ _ _ (by simp)]
    exact heap_alloc_new w _
  have hp1 : ((w.alloc (.cells #[.int .i64 k, .int .i64 g, .slice A ls.length c] 31)).alloc (.cells #[.int .i64 0, .int .i64 0, .slice none 0 0] 31)).heap[w.heap.size + 1]? = some (.cells #[.int .i64 0, .int .i64 0, .slice none 0 0] 31) := by
    have := heap_alloc_new (w.alloc (.cells #[.int .i64 k, .int .i64 g, .slice A ls.length c] 31)) (.cells #[.int .i64 0, .int .i64 0, .slice none 0 0] 31)
    simpa using this
  have HL := Lib.hid h
  rw [hN] at hrf hcl hb0 hp0 hp1 hll ⊢
  have HRF := Lib.hid hrf
  have HCL := Lib.hid hcl
  have HB0 := Lib.hid hb0
  have HP0 := Lib.hid hp0
  have HP1 := Lib.hid hp1
  have HN := Lib.hid hN
  have HR := Lib.hid hR
  have HMD := Lib.hid hmd
  clear hrf hb0 hmd h hc hp0 hp1 hN hR hm2 hcl
  refine callsIn_of_wp_marks Try.func19 rfl trivial ?_ rfl
  simp only [Try.ntmps19, List.size_toArray, List.length_cons, List.length_nil, Nat.reduceAdd, Nat.reduceSub, Array.replicate_succ, Array.replicate_zero, List.push_toArray, List.append_toArray, List.nil_append, List.cons_append]
  gi_wp2_with (first
    | (refine ⟨trivial, ?_⟩; gi_at_call 29; refine (callsIn_wide.2 HRF.out).mono ?_; rintro e w1 ⟨rfl, hb1⟩; have hq0 := (hb1.block w.heap.size (by simp; omega)).trans HP0.out; have hq1 := (hb1.block (w.heap.size + 1) (by simp)).trans HP1.out; obtain ⟨q0, q1, q2⟩ := box3 hq0; have hlt := lt_of hq0; have HB1 := Lib.hid (thn HB0.out hb1); have HZ1 := Lib.hid hb1.size; have HQ0 := Lib.hid hq0; have HQ1 := Lib.hid hq1; clear hb1 hq0 hq1)
    | (refine ⟨trivial, ?_⟩; gi_at_call 25; refine (callsIn_wide.2 (HCL.out w1 HB1.out)).mono ?_; rintro e w2 ⟨v, rfl, ho, hb2⟩; obtain ⟨Ac, cc, rfl, -, -⟩ := ho.form; rw [HN.out] at ho ⊢; have hq0' := (hb2.block w.heap.size hlt).trans HQ0.out; obtain ⟨q0', q1', q2'⟩ := box3 hq0'; have hlt2 := lt_of hq0'; have HO := Lib.hid ho; have HB2 := Lib.hid hb2; clear ho hb2 hq0')
    | (refine ⟨trivial, ?_⟩; gi_at_call 30; refine (reached_in (n - 1) k g _ _ _ _).mono ?_; rintro e w' ⟨rfl, rfl⟩))
  obtain ⟨W4, hW4, hsz4, r0, r1, r2, r3, hB4⟩ := heap_four w2 (.cells #[.slice Ac N cc] 26) (.cells #[.int .i64 k, .int .i64 g, .slice A N c] 31) (.cells #[.int .u64 t] 23) (.cells #[.int .u64 n0] 23)
  rw [← hW4]
  have hbw4 : Below w.heap.size w W4 := thn (thn HB1.out HB2.out) hB4
  have z1 : w.heap.size + 2 ≤ w1.heap.size := by have := HZ1.out; simp at this; omega
  have z2 : w1.heap.size ≤ w2.heap.size := HB2.out.size
  have hp : AddP w w1.heap.size w2.heap.size W4.heap.size := ⟨z1, z2, by omega⟩
  have hL4 : Levs W4 w.heap.size (.slice A ls.length c) ls := HL.out.below hbw4
  have seq := reach1_in (n - 1) (by omega) w.heap.size (w2.heap.size + 1 + 1 + 1) (w2.heap.size + 1) (w2.heap.size + 1 + 1) k g ls R t n0 HMD.out hn0 HR.out.symm hRl W4 hbw4.size A c hL4 r3 (by rw [HN.out]; exact r1) r2
  have hq4 : AddQ w (hv k g (.slice A N c)) W4 := by
    have e0 := (hB4.block w.heap.size (by omega)).trans ((HB2.out.block w.heap.size (by omega)).trans HQ0.out)
    have e1 := (hB4.block (w.heap.size + 1) (by omega)).trans ((HB2.out.block (w.heap.size + 1) (by omega)).trans HQ1.out)
    exact ⟨⟨k, g, _, rfl, e0⟩, e1, hbw4⟩
  have hI0 : AddI w w1.heap.size w2.heap.size W4.heap.size (hv k g (.slice A N c)) R ls 0 W4 := by
    refine ⟨⟨_, r0, ?_⟩, Nat.zero_le _, hq4⟩
    have : mix R ls 0 = ls := by simp [mix]
    rw [this]
    exact (HO.out.grow hB4).zone fun b _ hz => .inl hz
  have hlev := HN.out
  refine range_n rfl h1 (gf := 39) (lb := #[.pointer (some ⟨w2.heap.size + 1 + 1 + 1, 0, none⟩), .pointer (some ⟨w2.heap.size + 1, 0, none⟩), .pointer (some ⟨w2.heap.size + 1 + 1, 0, none⟩)]) rfl trivial (enters_of Try.func39 (by kernel_rfl) rfl)
    seq (fun h k => h.trans k) (Kt.put hbw4.size) (PxR.put (w := W4)) (Below.refl _ _) (fun _ => rfl)
    (AddI w w1.heap.size w2.heap.size W4.heap.size (hv k g (.slice A N c)) R ls)
    (fun _ _ _ => False)
    (AddI.own _ _ _ _ _ _ _ _ hp (Nat.le_refl _))
    (fun _ _ _ _ _ hs _ _ => hs)
    hI0
    (fun x => { tmps := #[hv k g (.slice A N c), .int .u64 t, .int .u64 n0, .pointer (some ⟨w.heap.size, 0, none⟩), undef, undef, .pointer (some ⟨w.heap.size + 1, 0, none⟩), .int .i64 0, .int .i64 0, .pointer (some ⟨w2.heap.size, 0, none⟩), .int .i64 (x.i : Int), .slice x.A x.n x.c, hv k g (.slice A N c),
      .int .u64 t, .int .u64 n0, .int .i64 0, .int .i64 0, .bool false, undef, undef, .pointer (some ⟨w.heap.size, 2, none⟩), .slice A N c, .slice Ac N cc, hv k g (.slice A N c), .int .u64 t, .int .u64 n0,
      .func (.func 39) #[] #[.pointer (some ⟨w2.heap.size + 1 + 1 + 1, 0, none⟩), .pointer (some ⟨w2.heap.size + 1, 0, none⟩), .pointer (some ⟨w2.heap.size + 1 + 1, 0, none⟩)], .int .i64 (x.i : Int), .slice x.A x.n x.c,
      undef, undef, undef, undef, undef, undef, undef, undef, undef, undef, undef, undef, undef, undef], defers := [] }) ?assign ?body ?done ?stop
  case assign =>
    intro l x W K hK
    gi_wp2
    exact hK
  case body =>
    rintro l j x W hI ⟨hj, hx1, hx2, ⟨b1, hx3, hb1⟩, hx4⟩
    rw [hx3] at hx4 ⊢
    rw [hx1]
    generalize x.n = nx at *
    generalize x.c = cx at *
    obtain ⟨v, hv, ho⟩ := hI.rows
    have hq := hI.q
    have hml := mix_len (R := R) (ls := ls) hI.le
    obtain ⟨L, hLe⟩ : ∃ L, mix R ls j = L := ⟨_, rfl⟩
    have hms := mix_set (R := R) (ls := ls) hj
    have hma := mix_app (R := R) (ls := ls) hj
    rw [hLe] at hml ho hms hma
    have hjj : j < 1000 := by omega
    by_cases hl : j < ls.length
    · have e : L.length = N := by omega
      obtain ⟨gg, cap, rfl, hg1, hg2, hcap⟩ := ho.addr (by omega)
      rw [e] at hv ho hcap
      obtain ⟨⟨u, hu⟩, hf⟩ := ho.cell j (by omega)
      have hstep := hq.set (B := W4.heap.size) hp hv ho (hms hl) hj hx4 hb1
      have hc := hv.cell
      have hne : ((j : Int) == (N : Int)) = false := by rw [beq_eq_false_iff_ne]; omega
      have hjN : (j : Int) < (N : Int) := by omega
      have hlt4 := hv.lt
      have HST := Lib.hid hstep
      clear hstep hv ho hms hma hml hLe hI hx1 hx2 hx3 hx4 hI0 seq r0 r1 r2 r3 hL4 hq4 hq e hj hl hlev hp
      gi_wp2
      exact HST.out
    · have e : L.length = j := by omega
      obtain ⟨Av, cv, rfl, -, -⟩ := ho.form
      rw [e] at hv ho
      have hc := hv.cell
      have hlt4 := hv.lt
      have HO4 := Lib.hid ho
      have HV := Lib.hid hv
      have HE := Lib.hid e
      have hLL : List.length (L ++ [([] : List Sp)]) = j + 1 := by rw [List.length_append, e]; rfl
      have HLL := Lib.hid hLL
      have HMA := Lib.hid (hma (by omega))
      have HX4 := Lib.hid hx4
      have HQ4 := Lib.hid hq
      have hzW : w1.heap.size ≤ W.heap.size := by omega
      clear hv ho hms hma hml hI hx1 hx2 hx3 hx4 hI0 seq r0 r1 r2 r3 hL4 hq4 hq e hl hlev hLe hLL
      gi_wp2_with (gi_at_builtin; refine wpListIn_lev _ 24 info_row Try.underlying26 rfl (by decide) W rfl _ _ rfl w1.heap.size _ _ L [] rfl HO4.out W.heap.size rfl rfl (Lies.nil _ _ (by unfold maxLen; omega)) (fun h => absurd rfl h) (by rw [HE.out]; omega) hzW ?_; intro v' w3 ho3 hq3 hg3; obtain ⟨g2, cap2, hv2, hg21, hg22, hcap2⟩ := ho3.addr (by rw [HLL.out]; omega); rw [HLL.out] at hv2 hcap2; subst hv2; obtain ⟨a1, a2, a3, a4, a5, a6, a7, a8⟩ := HQ4.out.app (B := W4.heap.size) hp HV.out HO4.out ho3 hg3; have hne : g2 ≠ w2.heap.size := (fun e => a7 (by rw [← e]; rfl)); obtain ⟨⟨u2, hu2⟩, hf2⟩ := ho3.cell j (by rw [HLL.out]; omega); have hc3 := a1.cell; have hf3 := a1.frozen; have hlt3 := a1.lt; have hstep := a4.set (B := W4.heap.size) hp a2 a3 HMA.out hj (a8 _ _ _ _ HX4.out) hb1; have HST := Lib.hid hstep; have A5 := Lib.hid a5; have A6 := Lib.hid a6; clear hstep a1 a2 a3 a4 a5 a6 a7 a8 ho3 hq3 hg3)
      obtain ⟨s1, s2, s3⟩ := HST.out
      exact ⟨A5.out.trans s1, A6.out.trans s2, s3⟩
  case done =>
    rintro D m W hD ⟨hmR, hmd⟩ hI hK
    obtain ⟨v, hv, ho⟩ := hI.rows
    have e : mix R ls m = R := by unfold mix; rw [← hmd, List.take_append_drop]
    rw [e] at ho
    obtain ⟨Av, cv, rfl, -, -⟩ := ho.form
    obtain ⟨k', g', s', hh, hhb⟩ := hI.q.hist
    have hhb : W.heap[w.heap.size]? = some (.cells #[.int .i64 k, .int .i64 g, .slice A N c] 31) := by
      simp only [Value.agg.injEq, Array.mk.injEq, List.cons.injEq, Value.int.injEq, true_and, and_true] at hh
      obtain ⟨rfl, rfl, rfl⟩ := hh
      exact hhb
    have hres := hI.q.res
    have hbel := hI.q.below
    obtain ⟨q0, q1, q2⟩ := box3 hhb
    obtain ⟨y0, y1, y2⟩ := box3 hres
    have f0 : ∀ i, W.frozen? ⟨w.heap.size, i, none⟩ = false := fun i => by simp [World.frozen?, hhb]
    have f1 : ∀ i, W.frozen? ⟨w.heap.size + 1, i, none⟩ = false := fun i => by simp [World.frozen?, hres]
    have l0 := lt_of hhb
    have l1 := lt_of hres
    have l2 := hv.lt
    have hc := hv.cell
    have n1 : w2.heap.size ≠ w.heap.size := by omega
    have n2 : w2.heap.size ≠ w.heap.size + 1 := by omega
    obtain ⟨NR, hNR⟩ : ∃ NR, R.length = NR := ⟨_, rfl⟩
    rw [hNR] at ho hc
    have zo : ∀ x, w.heap.size ≤ x → x < W4.heap.size → ∀ b, (b < w.heap.size ∨ W4.heap.size ≤ b) → b ≠ x := fun x h1 h2 b hb => by omega
    have on : ∀ x, x < w1.heap.size → (Value.slice Av NR cv).ownBlock ≠ some x := fun x hx e => by have := (ho.lt x e).1; omega
    have o2 := ho.off (grown_set W w.heap.size 2 (.slice Av NR cv)) (on _ (by omega)) (zo _ (by omega) (by omega))
    have o3 := o2.off (grown3 (b := w.heap.size + 1) (.int .i64 k) (.int .i64 g) (.slice Av NR cv)) (on _ (by omega)) (zo _ (by omega) (by omega))
    have hres2 : (W.setCell ⟨w.heap.size, 2, none⟩ (.slice Av NR cv)).heap[w.heap.size + 1]? = some (.cells #[.int .i64 0, .int .i64 0, .slice none 0 0] 31) := (Below.heap_setCell _ _ _ _ (by simp)).trans hres
    have hres3 := set3 hres2 (.int .i64 k) (.int .i64 g) (.slice Av NR cv)
    have hb3 := below3 (hbel.setCell (p := ⟨w.heap.size, 2, none⟩) (Nat.le_refl _) (.slice Av NR cv)) (b := w.heap.size + 1) (by omega) (.int .i64 k) (.int .i64 g) (.slice Av NR cv)
    obtain ⟨W5, hW5⟩ : ∃ W5, (((W.setCell ⟨w.heap.size, 2, none⟩ (.slice Av NR cv)).setCell ⟨w.heap.size + 1, 0, none⟩ (.int .i64 k)).setCell ⟨w.heap.size + 1, 1, none⟩ (.int .i64 g)).setCell ⟨w.heap.size + 1, 2, none⟩ (.slice Av NR cv) = W5 := ⟨_, rfl⟩
    have hK5 : W5.heap[D]? = some (.deferred (some [])) := by
      rw [← hW5, Below.heap_setCell _ _ _ _ (by simp; omega), Below.heap_setCell _ _ _ _ (by simp; omega), Below.heap_setCell _ _ _ _ (by simp; omega), Below.heap_setCell _ _ _ _ (by simp; omega)]
      exact hK
    rw [hW5] at o3 hres3 hb3
    have o4 := levs_other o3 (grownBy_putObj' W5 D (.deferred none)) fun r e => by cases e; exact ⟨_, hK5, rfl⟩
    have hres5 : (W5.putObj D (.deferred none)).heap[w.heap.size + 1]? = some (.cells #[.int .i64 k, .int .i64 g, .slice Av NR cv] 31) := (World.putObj_heap_other (by omega)).trans hres3
    obtain ⟨t0, t1, t2⟩ := box3 hres5
    have hb5 := hb3.trans (belowK_b (w := w) (Nat.le_refl _) W5 D _ (.deferred none) (by omega) hK5 rfl rfl)
    have HW5 := Lib.hid hW5
    have HK5 := Lib.hid hK5
    have O4 := Lib.hid o4.levs
    have HB5 := Lib.hid hb5
    have T0 := Lib.hid t0
    have T1 := Lib.hid t1
    have T2 := Lib.hid t2
    clear hI hv ho e hh hhb hres hbel hNR zo on o2 o3 o4 hres2 hres3 hb3 hW5 hK5 hres5 t0 t1 t2 hb5 hI0 seq r0 r1 r2 r3 hL4 hq4 hK
    gi_wp2
    rw [HW5.out]
    refine ⟨by simp, .inl ⟨_, _, rfl, run_takeDeferred HK5.out, ?_⟩⟩
    refine ⟨.tuple #[hv k g (.slice Av NR cv), .int .i64 0], by simp [results, Try.results19, go_sem, T0.out, T1.out, T2.out], ⟨_, rfl, O4.out, HB5.out⟩⟩
  case stop =>
    rintro D c pre W _ h _
    exact h.elim

theorem add_ok (k : Nat) (g : Int) (ls : Lv) (hmd : Made k ls) (t n0 : Nat) (hn : n0 < 18446744073709551616) (hc : code ls t n0 = 0) (w : World) (A : Option Addr) (c : Nat) (h : Levs w w.heap.size (.slice A ls.length c) ls) :
    Calls Try.prog 19 #[hv k g (.slice A ls.length c), .int .u64 t, .int .u64 n0] w fun e w' => ∃ v, e = hret (hv k g v) 0 ∧ Levs w' w'.heap.size v (addW k ls t n0) ∧ Below w.heap.size w w' :=
  (callsIn_wide (n := 3)).1 (addR_in 3 (by omega) k g ls hmd t n0 hn hc w A c h)

end Go.Proofs.Ytafcgfhkeceiaaa
