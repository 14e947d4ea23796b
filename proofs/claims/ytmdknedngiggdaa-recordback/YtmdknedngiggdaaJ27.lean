/- The contracts of record.Take and record.One. · The contract of record.One. -/
import Derived.Test.YtmdknedngiggdaaJ26
section
/- The contracts of record.Take and record.One. -/
namespace Go.Proofs.Rc
open Go.Proofs.Vm Go.Proofs.Lh
open Go.Proofs.Lm (Sp)
theorem satLv_lens : ∀ (r : List (List (Nat × Nat))) (a : Nat), ∀ l ∈ (satLv a r).1, ∃ l' ∈ r, l.length = l'.length
  | [], _ => by simp [satLv]
  | l :: r, a => by
    intro x hx
    rw [satLv] at hx
    rcases List.mem_cons.1 hx with rfl | hx
    · exact ⟨l, List.mem_cons_self, satSp_len l a⟩
    · obtain ⟨l', h1, h2⟩ := satLv_lens r _ x hx
      exact ⟨l', List.mem_cons_of_mem _ h1, h2⟩
theorem sat_lens {x : Raw} (hp : rawP x) : (satM x).2.2.length ≤ 52 ∧ ∀ i, (lev (satM x).2.2 i).length ≤ 1025 := by
  obtain ⟨-, -, h3, h4⟩ := hp
  refine ⟨?_, fun i => ?_⟩
  · show (satLv 0 x.2.2).1.reverse.length ≤ 52
    rw [List.length_reverse, satLv_len]
    exact h3
  · rcases Nat.lt_or_ge i (satM x).2.2.length with hi | hi
    · rw [lev_lt hi]
      have hm : (satM x).2.2[i] ∈ (satLv 0 x.2.2).1.reverse := List.getElem_mem hi
      rw [List.mem_reverse] at hm
      obtain ⟨l', h1, h2⟩ := satLv_lens _ _ _ hm
      rw [h2]
      exact (h4 l' h1).1
    · rw [lev_ge hi]
      simp
end Go.Proofs.Rc
namespace Go.Proofs.Ytmdknedngiggdaa
open Go.RowKit Go.Shelf Go.Proofs.Vm Go.Proofs.Rw Go.Proofs.Lh
open Go.Proofs.Rc (rawR satM takeM oneM)

/-- A histogram that is told. -/
def ToldH (w' : World) (v : Value) (m : Hm) : Prop := ∃ A c, v = hv m.1 m.2.1 (.slice A m.2.2.length c) ∧ Levs w' w'.heap.size (.slice A m.2.2.length c) m.2.2
theorem ToldH.zero (w' : World) : ToldH w' (hv 0 0 (.slice none 0 0)) (0, 0, []) := ⟨none, 0, rfl, Levs.nil⟩

/-- A box of zeros is written: what lies elsewhere stays. -/
theorem zbox {w wr : World} {p rb : Nat} {x y z : Value} {bs : List Int} {e : Int} {ls : Lv} {v : Value} (hp : wr.heap[p]? = some (.cells #[x, y, z] 30)) (hl : Levs wr wr.heap.size v ls) (hr : Rd wr rb bs e) (hrp : rb < p) (hg : w.grownBy wr (some rb)) (hwp : w.heap.size ≤ p) (x' y' z' : Value) :
    Levs (((wr.setCell ⟨p, 0, none⟩ x').setCell ⟨p, 1, none⟩ y').setCell ⟨p, 2, none⟩ z') (((wr.setCell ⟨p, 0, none⟩ x').setCell ⟨p, 1, none⟩ y').setCell ⟨p, 2, none⟩ z').heap.size v ls ∧
    Rd (((wr.setCell ⟨p, 0, none⟩ x').setCell ⟨p, 1, none⟩ y').setCell ⟨p, 2, none⟩ z') rb bs e ∧ w.grownBy (((wr.setCell ⟨p, 0, none⟩ x').setCell ⟨p, 1, none⟩ y').setCell ⟨p, 2, none⟩ z') (some rb) := by
  have hnt : ∀ b, some p = some b → ¬ Ty wr 65 b ∧ ¬ Ty wr 73 b := by
    intro b hb
    injection hb with hb
    subst hb
    constructor
    · rintro ⟨cs, fr, hc⟩
      rw [hp] at hc
      injection hc with hc
      injection hc with _ hc _
      exact absurd hc (by decide)
    · rintro ⟨cs, fr, hc⟩
      rw [hp] at hc
      injection hc with hc
      injection hc with _ hc _
      exact absurd hc (by decide)
  have hg3 := grown3 (W := wr) (b := p) x' y' z'
  exact ⟨hl.other hg3 hnt, hr.grown hg3 hrp, hg3.os.trans hg.os, hg3.tape.trans hg.tape, hg3.output.trans hg.output, Nat.le_trans hg.size hg3.size, fun b hb hn => (hg3.block b (Nat.lt_of_lt_of_le hb hg.size) (by simp; omega)).trans (hg.block b hb hn)⟩
theorem froz3 {W : World} {b : Nat} {cs : Array Value} {T : TypeId} (h : W.heap[b]? = some (.cells cs T)) : W.frozen? ⟨b, 0, none⟩ = false ∧ W.frozen? ⟨b, 1, none⟩ = false ∧ W.frozen? ⟨b, 2, none⟩ = false := by
  refine ⟨?_, ?_, ?_⟩ <;> simp [World.frozen?, h]

set_option maxRecDepth 100000 in
set_option maxHeartbeats 4000000 in
theorem takeR_any {w : World} {rb : Nat} {bs : List Int} {e : Int} (h : Rd w rb bs e) (hok : Rc.okB bs) :
    Calls Try.prog 16 #[.pointer (some ⟨rb, 0, none⟩)] w fun r w' => ∃ v, r = .returned v ∧ ToldH w' v (takeM bs e).2.2 ∧ Rd w' rb (takeM bs e).1 (takeM bs e).2.1 ∧ w.grownBy w' (some rb) := by
  have hrb := h.lt
  have hal := (Below.refl w.heap.size w).alloc (Nat.le_refl _) (.cells #[.int .i64 0, .int .i64 0, .slice none 0 0] 30)
  have hrs := heap_alloc_new w (.cells #[.int .i64 0, .int .i64 0, .slice none 0 0] 30)
  obtain ⟨W0, hW0⟩ : ∃ W, w.alloc (.cells #[.int .i64 0, .int .i64 0, .slice none 0 0] 30) = W := ⟨_, rfl⟩
  rw [hW0] at hal hrs
  have hrd := read_any (h.below hal hrb) hok
  obtain ⟨sl1, sl2⟩ := Rc.sat_lens (Rc.raw_le bs e)
  have htk := Rc.take_sat (bs := bs) (e := e)
  obtain ⟨⟨b', e', x⟩, hx⟩ : ∃ q, rawR bs e = q := ⟨_, rfl⟩
  rw [hx] at hrd sl1 sl2 htk
  dsimp only at hrd sl1 sl2 htk
  obtain ⟨⟨k, g, ls⟩, hm⟩ : ∃ q, satM x = q := ⟨_, rfl⟩
  rw [hm] at hrd sl1 sl2 htk
  dsimp only at hrd sl1 sl2 htk
  have hch := fun W A c hL => hist_any k g ls (by omega) (fun i => by have := sl2 i; omega) W A c hL
  obtain ⟨cc, hcc⟩ : ∃ c, chk k g ls = c := ⟨_, rfl⟩
  rw [hcc] at hch htk
  rw [htk]
  have HW0 := Lib.hid hW0
  have HAL := Lib.hid hal
  have HRS := Lib.hid hrs
  have HRD := Lib.hid hrd
  have HCH := Lib.hid hch
  clear h hok hal hrs hW0 hrd sl1 sl2 htk hx hm hch hcc
  have start : ∀ (W1 W2 : World) (gv N : Nat), W0.grownBy W1 (some rb) → N = ls.length → Levs W1 W1.heap.size (.slice (some ⟨gv, 0, none⟩) N N) ls → Rd W1 rb b' e' → W1.alloc (.cells #[.int .i64 k, .int .i64 g, .slice (some ⟨gv, 0, none⟩) N N] 30) = W2 →
      W2.heap[W1.heap.size]? = some (.cells #[.int .i64 k, .int .i64 g, .slice (some ⟨gv, 0, none⟩) N N] 30) ∧ W2.heap[w.heap.size]? = some (.cells #[.int .i64 0, .int .i64 0, .slice none 0 0] 30) ∧ Levs W2 W2.heap.size (.slice (some ⟨gv, 0, none⟩) N N) ls ∧ Rd W2 rb b' e' ∧ w.grownBy W2 (some rb) ∧ w.heap.size ≤ W1.heap.size := by
    rintro W1 W2 gv N h1 h2 h3 h4 rfl
    have hz := lt_of HRS.out
    have hb := (Below.refl W1.heap.size W1).alloc (Nat.le_refl _) (.cells #[.int .i64 k, .int .i64 g, .slice (some ⟨gv, 0, none⟩) N N] 30)
    have hs := h1.size
    refine ⟨heap_alloc_new W1 _, ?_, h3.grow hb, h4.below hb h4.lt, ?_, by omega⟩
    · rw [hb.block _ (by omega), h1.block _ hz (by simp; omega)]
      exact HRS.out
    · have hal := HAL.out
      exact ⟨hb.os.trans (h1.os.trans hal.os), hb.tape.trans (h1.tape.trans hal.tape), hb.output.trans (h1.output.trans hal.output), by have := hb.size; omega, fun i hi hn => (hb.block i (by omega)).trans ((h1.block i (by omega) hn).trans (hal.block i hi))⟩
  have START := Lib.hid start
  clear start HAL HRS
  by_cases he : e' = 0
  · subst he
    by_cases hc : cc = 0
    · subst hc
      rw [if_neg (by simp), if_neg (by simp)]
      go_enter Try.func16, Try.ntmps16
      go_upto_region 1 with (fail)
      rw [HW0.out]
      clear HW0
      go_upto_region 2 with (go_at_call 35; (with_reducible refine HRD.out.mono ?_); rintro e w1 ⟨gv, N, rfl, hN, hL1, hr1, hg1⟩; have HL1 := Lib.hid hL1; have HR1 := Lib.hid hr1; have HG1 := Lib.hid hg1; have HNL := Lib.hid hN; clear hL1 hr1 hg1 hN)
      obtain ⟨W2, hW2⟩ : ∃ W, w1.alloc (.cells #[.int .i64 k, .int .i64 g, .slice (some ⟨gv, 0, none⟩) N N] 30) = W := ⟨_, rfl⟩
      obtain ⟨s1, s2, s3, s4, s5, s6⟩ := START.out w1 W2 gv N HG1.out HNL.out HL1.out HR1.out hW2
      have hc2 : ∀ W, Levs W W.heap.size (.slice (some ⟨gv, 0, none⟩) N N) ls → Calls Try.prog 27 #[hv k g (.slice (some ⟨gv, 0, none⟩) N N)] W fun e w' => e = .returned (.int .i64 (0 : Int)) ∧ Below W.heap.size W w' := by
        intro W hL
        rw [HNL.out] at hL ⊢
        exact HCH.out W _ _ hL.reads
      rw [hW2]
      obtain ⟨hb, hbe⟩ : ∃ b, w1.heap.size = b := ⟨_, rfl⟩
      rw [hbe] at s1 s6 ⊢
      obtain ⟨x0, x1, x2⟩ := box3 s1
      have lh := lt_of s1
      have S1 := Lib.hid s1
      have S2 := Lib.hid s2
      have S3 := Lib.hid s3
      have S4 := Lib.hid s4
      have S5 := Lib.hid s5
      have HC2 := Lib.hid hc2
      clear s1 s2 s3 s4 s5 s6 hc2 hbe hW2 HL1 HR1 HG1 HRD HCH START
      go_wp2_with (first
        | (go_at_call 27; (with_reducible refine (HC2.out _ S3.out).mono ?_); rintro e w3 ⟨rfl, hb3⟩; have T1 := Lib.hid ((hb3.block _ (lt_of S1.out)).trans S1.out); have T2 := Lib.hid ((hb3.block _ (lt_of S2.out)).trans S2.out); have T3 := Lib.hid (S3.out.grow hb3); have T4 := Lib.hid (S4.out.below hb3 S4.out.lt); have T5 := Lib.hid (grownBy_trans S5.out (grownBy_of_below hb3)); clear hb3 x0 x1 x2 lh; obtain ⟨x0, x1, x2⟩ := box3 T1.out; have lh := lt_of T1.out; obtain ⟨y0, y1, y2⟩ := box3 T2.out; obtain ⟨z0, z1, z2⟩ := froz3 T2.out; have lv := lt_of T2.out)
        | (go_at_call 20; (with_reducible refine (err_any T4.out).mono ?_); rintro e w5 ⟨rfl, rfl⟩))
      obtain ⟨f1, f2, f3⟩ := zbox T2.out T3.out T4.out hrb T5.out (Nat.le_refl _) (.int .i64 k) (.int .i64 g) (.slice (some ⟨gv, 0, none⟩) N N)
      obtain ⟨c0, c1, c2⟩ := box3 (set3 T2.out (.int .i64 k) (.int .i64 g) (.slice (some ⟨gv, 0, none⟩) N N))
      refine bodyPost_ret (v := hv k g (.slice (some ⟨gv, 0, none⟩) N N)) (by simp [results, Try.results16, go_sem, c0, c1, c2]) rfl ?_
      exact ⟨_, rfl, ⟨some ⟨gv, 0, none⟩, N, by rw [← HNL.out], by rw [← HNL.out]; exact f1⟩, f2, f3⟩
    · have hc' : ((cc : Int) != 0) = true := by simpa using hc
      rw [if_neg (by simp), if_pos hc]
      go_enter Try.func16, Try.ntmps16
      go_upto_region 1 with (fail)
      rw [HW0.out]
      clear HW0
      go_upto_region 2 with (go_at_call 35; (with_reducible refine HRD.out.mono ?_); rintro e w1 ⟨gv, N, rfl, hN, hL1, hr1, hg1⟩; have HL1 := Lib.hid hL1; have HR1 := Lib.hid hr1; have HG1 := Lib.hid hg1; have HNL := Lib.hid hN; clear hL1 hr1 hg1 hN)
      obtain ⟨W2, hW2⟩ : ∃ W, w1.alloc (.cells #[.int .i64 k, .int .i64 g, .slice (some ⟨gv, 0, none⟩) N N] 30) = W := ⟨_, rfl⟩
      obtain ⟨s1, s2, s3, s4, s5, s6⟩ := START.out w1 W2 gv N HG1.out HNL.out HL1.out HR1.out hW2
      have hc2 : ∀ W, Levs W W.heap.size (.slice (some ⟨gv, 0, none⟩) N N) ls → Calls Try.prog 27 #[hv k g (.slice (some ⟨gv, 0, none⟩) N N)] W fun e w' => e = .returned (.int .i64 (cc : Int)) ∧ Below W.heap.size W w' := by
        intro W hL
        rw [HNL.out] at hL ⊢
        exact HCH.out W _ _ hL.reads
      rw [hW2]
      obtain ⟨hb, hbe⟩ : ∃ b, w1.heap.size = b := ⟨_, rfl⟩
      rw [hbe] at s1 s6 ⊢
      obtain ⟨x0, x1, x2⟩ := box3 s1
      have lh := lt_of s1
      have S1 := Lib.hid s1
      have S2 := Lib.hid s2
      have S3 := Lib.hid s3
      have S4 := Lib.hid s4
      have S5 := Lib.hid s5
      have HC2 := Lib.hid hc2
      clear s1 s2 s3 s4 s5 s6 hc2 hbe hW2 HL1 HR1 HG1 HRD HCH START
      go_wp2_with (first
        | (go_at_call 27; (with_reducible refine (HC2.out _ S3.out).mono ?_); rintro e w3 ⟨rfl, hb3⟩; have T1 := Lib.hid ((hb3.block _ (lt_of S1.out)).trans S1.out); have T2 := Lib.hid ((hb3.block _ (lt_of S2.out)).trans S2.out); have T3 := Lib.hid (S3.out.grow hb3); have T4 := Lib.hid (S4.out.below hb3 S4.out.lt); have T5 := Lib.hid (grownBy_trans S5.out (grownBy_of_below hb3)); clear hb3 x0 x1 x2 lh; obtain ⟨x0, x1, x2⟩ := box3 T1.out; have lh := lt_of T1.out; obtain ⟨y0, y1, y2⟩ := box3 T2.out; obtain ⟨z0, z1, z2⟩ := froz3 T2.out; have lv := lt_of T2.out)
        | (go_at_call 36; (with_reducible refine (fail_any T4.out 2).mono ?_); rintro e w4 ⟨⟨r4, rfl⟩, hr4, hg4⟩; have U2 := Lib.hid ((hg4.block _ (lt_of T2.out) (by simp; omega)).trans T2.out); have U4 := Lib.hid hr4; have U5 := Lib.hid (grownBy_trans T5.out hg4); clear hr4 hg4 x0 x1 x2 lh y0 y1 y2 z0 z1 z2 lv; obtain ⟨y0, y1, y2⟩ := box3 U2.out; obtain ⟨z0, z1, z2⟩ := froz3 U2.out; have lv := lt_of U2.out)
        | (go_at_call 20; (with_reducible refine (err_any U4.out).mono ?_); rintro e w5 ⟨rfl, rfl⟩; dsimp only [rFail]))
      obtain ⟨f1, f2, f3⟩ := zbox U2.out (Levs.nil (w := w4) (B := w4.heap.size)) U4.out hrb U5.out (Nat.le_refl _) (.int .i64 0) (.int .i64 0) (.slice none 0 0)
      obtain ⟨c0, c1, c2⟩ := box3 (set3 U2.out (.int .i64 0) (.int .i64 0) (.slice none 0 0))
      refine bodyPost_ret (v := hv 0 0 (.slice none 0 0)) (by simp [results, Try.results16, go_sem, c0, c1, c2]) rfl ?_
      exact ⟨_, rfl, ToldH.zero _, f2, f3⟩
  · have he' : (e' != 0) = true := by simpa using he
    rw [if_pos he]
    by_cases hc : cc = 0
    · subst hc
      go_enter Try.func16, Try.ntmps16
      go_upto_region 1 with (fail)
      rw [HW0.out]
      clear HW0
      go_upto_region 2 with (go_at_call 35; (with_reducible refine HRD.out.mono ?_); rintro e w1 ⟨gv, N, rfl, hN, hL1, hr1, hg1⟩; have HL1 := Lib.hid hL1; have HR1 := Lib.hid hr1; have HG1 := Lib.hid hg1; have HNL := Lib.hid hN; clear hL1 hr1 hg1 hN)
      obtain ⟨W2, hW2⟩ : ∃ W, w1.alloc (.cells #[.int .i64 k, .int .i64 g, .slice (some ⟨gv, 0, none⟩) N N] 30) = W := ⟨_, rfl⟩
      obtain ⟨s1, s2, s3, s4, s5, s6⟩ := START.out w1 W2 gv N HG1.out HNL.out HL1.out HR1.out hW2
      have hc2 : ∀ W, Levs W W.heap.size (.slice (some ⟨gv, 0, none⟩) N N) ls → Calls Try.prog 27 #[hv k g (.slice (some ⟨gv, 0, none⟩) N N)] W fun e w' => e = .returned (.int .i64 (0 : Int)) ∧ Below W.heap.size W w' := by
        intro W hL
        rw [HNL.out] at hL ⊢
        exact HCH.out W _ _ hL.reads
      rw [hW2]
      obtain ⟨hb, hbe⟩ : ∃ b, w1.heap.size = b := ⟨_, rfl⟩
      rw [hbe] at s1 s6 ⊢
      obtain ⟨x0, x1, x2⟩ := box3 s1
      have lh := lt_of s1
      have S1 := Lib.hid s1
      have S2 := Lib.hid s2
      have S3 := Lib.hid s3
      have S4 := Lib.hid s4
      have S5 := Lib.hid s5
      have HC2 := Lib.hid hc2
      clear s1 s2 s3 s4 s5 s6 hc2 hbe hW2 HL1 HR1 HG1 HRD HCH START
      go_wp2_with (first
        | (go_at_call 27; (with_reducible refine (HC2.out _ S3.out).mono ?_); rintro e w3 ⟨rfl, hb3⟩; have T1 := Lib.hid ((hb3.block _ (lt_of S1.out)).trans S1.out); have T2 := Lib.hid ((hb3.block _ (lt_of S2.out)).trans S2.out); have T3 := Lib.hid (S3.out.grow hb3); have T4 := Lib.hid (S4.out.below hb3 S4.out.lt); have T5 := Lib.hid (grownBy_trans S5.out (grownBy_of_below hb3)); clear hb3 x0 x1 x2 lh; obtain ⟨x0, x1, x2⟩ := box3 T1.out; have lh := lt_of T1.out; obtain ⟨y0, y1, y2⟩ := box3 T2.out; obtain ⟨z0, z1, z2⟩ := froz3 T2.out; have lv := lt_of T2.out)
        | (go_at_call 20; (with_reducible refine (err_any T4.out).mono ?_); rintro e w5 ⟨rfl, rfl⟩))
      obtain ⟨f1, f2, f3⟩ := zbox T2.out (Levs.nil (w := w3) (B := w3.heap.size)) T4.out hrb T5.out (Nat.le_refl _) (.int .i64 0) (.int .i64 0) (.slice none 0 0)
      obtain ⟨c0, c1, c2⟩ := box3 (set3 T2.out (.int .i64 0) (.int .i64 0) (.slice none 0 0))
      refine bodyPost_ret (v := hv 0 0 (.slice none 0 0)) (by simp [results, Try.results16, go_sem, c0, c1, c2]) rfl ?_
      exact ⟨_, rfl, ToldH.zero _, f2, f3⟩
    · have hc' : ((cc : Int) != 0) = true := by simpa using hc
      have hrf : rFail e' 2 = e' := by unfold rFail; rw [if_neg he]
      have HRF := Lib.hid hrf
      clear hrf
      go_enter Try.func16, Try.ntmps16
      go_upto_region 1 with (fail)
      rw [HW0.out]
      clear HW0
      go_upto_region 2 with (go_at_call 35; (with_reducible refine HRD.out.mono ?_); rintro e w1 ⟨gv, N, rfl, hN, hL1, hr1, hg1⟩; have HL1 := Lib.hid hL1; have HR1 := Lib.hid hr1; have HG1 := Lib.hid hg1; have HNL := Lib.hid hN; clear hL1 hr1 hg1 hN)
      obtain ⟨W2, hW2⟩ : ∃ W, w1.alloc (.cells #[.int .i64 k, .int .i64 g, .slice (some ⟨gv, 0, none⟩) N N] 30) = W := ⟨_, rfl⟩
      obtain ⟨s1, s2, s3, s4, s5, s6⟩ := START.out w1 W2 gv N HG1.out HNL.out HL1.out HR1.out hW2
      have hc2 : ∀ W, Levs W W.heap.size (.slice (some ⟨gv, 0, none⟩) N N) ls → Calls Try.prog 27 #[hv k g (.slice (some ⟨gv, 0, none⟩) N N)] W fun e w' => e = .returned (.int .i64 (cc : Int)) ∧ Below W.heap.size W w' := by
        intro W hL
        rw [HNL.out] at hL ⊢
        exact HCH.out W _ _ hL.reads
      rw [hW2]
      obtain ⟨hb, hbe⟩ : ∃ b, w1.heap.size = b := ⟨_, rfl⟩
      rw [hbe] at s1 s6 ⊢
      obtain ⟨x0, x1, x2⟩ := box3 s1
      have lh := lt_of s1
      have S1 := Lib.hid s1
      have S2 := Lib.hid s2
      have S3 := Lib.hid s3
      have S4 := Lib.hid s4
      have S5 := Lib.hid s5
      have HC2 := Lib.hid hc2
      clear s1 s2 s3 s4 s5 s6 hc2 hbe hW2 HL1 HR1 HG1 HRD HCH START
      go_wp2_with (first
        | (go_at_call 27; (with_reducible refine (HC2.out _ S3.out).mono ?_); rintro e w3 ⟨rfl, hb3⟩; have T1 := Lib.hid ((hb3.block _ (lt_of S1.out)).trans S1.out); have T2 := Lib.hid ((hb3.block _ (lt_of S2.out)).trans S2.out); have T3 := Lib.hid (S3.out.grow hb3); have T4 := Lib.hid (S4.out.below hb3 S4.out.lt); have T5 := Lib.hid (grownBy_trans S5.out (grownBy_of_below hb3)); clear hb3 x0 x1 x2 lh; obtain ⟨x0, x1, x2⟩ := box3 T1.out; have lh := lt_of T1.out; obtain ⟨y0, y1, y2⟩ := box3 T2.out; obtain ⟨z0, z1, z2⟩ := froz3 T2.out; have lv := lt_of T2.out)
        | (go_at_call 36; (with_reducible refine (fail_any T4.out 2).mono ?_); rintro e w4 ⟨⟨r4, rfl⟩, hr4, hg4⟩; have U2 := Lib.hid ((hg4.block _ (lt_of T2.out) (by simp; omega)).trans T2.out); rw [HRF.out] at hr4; have U4 := Lib.hid hr4; have U5 := Lib.hid (grownBy_trans T5.out hg4); clear hr4 hg4 x0 x1 x2 lh y0 y1 y2 z0 z1 z2 lv; obtain ⟨y0, y1, y2⟩ := box3 U2.out; obtain ⟨z0, z1, z2⟩ := froz3 U2.out; have lv := lt_of U2.out)
        | (go_at_call 20; (with_reducible refine (err_any U4.out).mono ?_); rintro e w5 ⟨rfl, rfl⟩))
      obtain ⟨f1, f2, f3⟩ := zbox U2.out (Levs.nil (w := w4) (B := w4.heap.size)) U4.out hrb U5.out (Nat.le_refl _) (.int .i64 0) (.int .i64 0) (.slice none 0 0)
      obtain ⟨c0, c1, c2⟩ := box3 (set3 U2.out (.int .i64 0) (.int .i64 0) (.slice none 0 0))
      refine bodyPost_ret (v := hv 0 0 (.slice none 0 0)) (by simp [results, Try.results16, go_sem, c0, c1, c2]) rfl ?_
      exact ⟨_, rfl, ToldH.zero _, f2, f3⟩
end Go.Proofs.Ytmdknedngiggdaa
end
section
/- The contract of record.One. -/
namespace Go.Proofs.Ytmdknedngiggdaa
open Go.RowKit Go.Shelf Go.Proofs.Vm Go.Proofs.Rw Go.Proofs.Lh
open Go.Proofs.Rc (rawR satM takeM oneM)

set_option maxRecDepth 100000 in
set_option maxHeartbeats 4000000 in
theorem oneR_any {w : World} {v : Value} {bs : List Int} (h : Holds w w.heap.size v bs) (hok : Rc.okB bs) (hl : bs.length ≤ 900000) :
    Calls Try.prog 13 #[v] w fun r w' => ∃ u, r = .returned (.tuple #[u, .int .i64 (oneM bs).2]) ∧ ToldH w' u (oneM bs).1 ∧ Below w.heap.size w w' := by
  have hal := (Below.refl w.heap.size w).alloc (Nat.le_refl _) (.cells #[.int .i64 0, .int .i64 0, .slice none 0 0] 30)
  have hrs := heap_alloc_new w (.cells #[.int .i64 0, .int .i64 0, .slice none 0 0] 30)
  obtain ⟨W0, hW0⟩ : ∃ W, w.alloc (.cells #[.int .i64 0, .int .i64 0, .slice none 0 0] 30) = W := ⟨_, rfl⟩
  rw [hW0] at hal hrs
  have hnew := new_any ((h.below hal).mono hal.size) (by omega)
  have htk := fun W rb (hr : Rd W rb bs 0) => takeR_any hr hok
  have hone : oneM bs = if rEnd (takeM bs 0).1 (takeM bs 0).2.1 ≠ 0 then ((0, 0, []), rEnd (takeM bs 0).1 (takeM bs 0).2.1) else ((takeM bs 0).2.2, 0) := rfl
  obtain ⟨⟨b', e', k, g, ls⟩, hx⟩ : ∃ q, takeM bs 0 = q := ⟨_, rfl⟩
  rw [hx] at htk hone
  dsimp only at htk hone
  rw [hone]
  have hend := fun W rb (hr : Rd W rb b' e') => end_any hr
  obtain ⟨en, hen⟩ : ∃ q, rEnd b' e' = q := ⟨_, rfl⟩
  rw [hen] at hend
  rw [hen]
  have HW0 := Lib.hid hW0
  have HAL := Lib.hid hal
  have HRS := Lib.hid hrs
  have HNEW := Lib.hid hnew
  have HTK := Lib.hid htk
  have HEND := Lib.hid hend
  clear h hok hl hal hrs hW0 hnew htk hone hx hend hen
  have start : ∀ (W1 W2 W3 : World) (rb n c : Nat) (A : Option Addr), Below W0.heap.size W0 W1 → W0.heap.size ≤ rb → W1.grownBy W2 (some rb) → Levs W2 W2.heap.size (.slice A ls.length c) ls → Rd W2 rb b' e' → n = ls.length → W2.alloc (.cells #[.int .i64 k, .int .i64 g, .slice A n c] 30) = W3 →
      W3.heap[W2.heap.size]? = some (.cells #[.int .i64 k, .int .i64 g, .slice A n c] 30) ∧ W3.heap[w.heap.size]? = some (.cells #[.int .i64 0, .int .i64 0, .slice none 0 0] 30) ∧ Levs W3 W3.heap.size (.slice A n c) ls ∧ Rd W3 rb b' e' ∧ Below w.heap.size w W3 ∧ w.heap.size < rb := by
    rintro W1 W2 W3 rb n c A h1 h2 h3 h4 h5 rfl rfl
    have hz := lt_of HRS.out
    have hz1 := h1.size
    have hz2 := h3.size
    have hb := (Below.refl W2.heap.size W2).alloc (Nat.le_refl _) (.cells #[.int .i64 k, .int .i64 g, .slice A ls.length c] 30)
    refine ⟨heap_alloc_new W2 _, ?_, h4.grow hb, h5.below hb h5.lt, ?_, by omega⟩
    · rw [hb.block _ (by omega), h3.block _ (by omega) (by simp; omega), h1.block _ hz]
      exact HRS.out
    · exact thn (thnG (HAL.out.trans (h1.mono (by omega))) h3 (by omega)) hb
  have START := Lib.hid start
  clear start
  clear HAL HRS
  by_cases he : en = 0
  · subst he
    rw [if_neg (by simp)]
    go_enter Try.func13, Try.ntmps13
    go_upto_region 1 with (fail)
    rw [HW0.out]
    clear HW0
    go_upto_region 3 with (first
      | (go_at_call 15; (with_reducible refine HNEW.out.mono ?_); rintro e w1 ⟨rb, rfl, hrb, hr1, hb1⟩; have HRB := Lib.hid hrb; have HR1 := Lib.hid hr1; have HB1 := Lib.hid hb1; clear hrb hr1 hb1)
      | (go_at_call 16; (with_reducible refine (HTK.out _ _ HR1.out).mono ?_); rintro e w2 ⟨u2, rfl, ⟨A, c, rfl, hL2⟩, hr2, hg2⟩; dsimp only at hL2 hr2 ⊢; have HL2 := Lib.hid hL2; have HR2 := Lib.hid hr2; have HG2 := Lib.hid hg2; clear hL2 hr2 hg2; obtain ⟨n, hn⟩ : ∃ n, ls.length = n := ⟨_, rfl⟩; rw [hn]))
    obtain ⟨W3, hW3⟩ : ∃ W, w2.alloc (.cells #[.int .i64 k, .int .i64 g, .slice A n c] 30) = W := ⟨_, rfl⟩
    obtain ⟨s1, s2, s3, s4, s5, s6⟩ := START.out w1 w2 W3 rb n c A HB1.out HRB.out HG2.out HL2.out HR2.out hn.symm hW3
    rw [hW3]
    obtain ⟨hb, hbe⟩ : ∃ b, w2.heap.size = b := ⟨_, rfl⟩
    rw [hbe] at s1 ⊢
    obtain ⟨x0, x1, x2⟩ := box3 s1
    have lh := lt_of s1
    obtain ⟨y0, y1, y2⟩ := box3 s2
    obtain ⟨z0, z1, z2⟩ := froz3 s2
    have lv := lt_of s2
    have S2 := Lib.hid s2
    have S3 := Lib.hid s3
    have S4 := Lib.hid s4
    have S5 := Lib.hid s5
    have HNL := Lib.hid hn
    clear s1 s2 s3 s4 s5 s6 hbe hW3 hn START HL2 HR2 HG2 HR1 HB1 HRB HTK HNEW
    go_wp2_with (go_at_call 25; (with_reducible refine (HEND.out _ _ S4.out).mono ?_); rintro e w5 ⟨rfl, rfl⟩)
    have hnt : ∀ b, some w.heap.size = some b → ¬ Ty W3 65 b ∧ ¬ Ty W3 73 b := by
      intro b hb
      injection hb with hb
      subst hb
      constructor
      · rintro ⟨cs, fr, hc⟩
        rw [S2.out] at hc
        injection hc with hc
        injection hc with _ hc _
        exact absurd hc (by decide)
      · rintro ⟨cs, fr, hc⟩
        rw [S2.out] at hc
        injection hc with hc
        injection hc with _ hc _
        exact absurd hc (by decide)
    have f1 := S3.out.other (grown3 (.int .i64 k) (.int .i64 g) (.slice A n c)) hnt
    obtain ⟨c0, c1, c2⟩ := box3 (set3 S2.out (.int .i64 k) (.int .i64 g) (.slice A n c))
    refine bodyPost_ret (v := .tuple #[hv k g (.slice A n c), .int .i64 0]) (by simp [results, Try.results13, go_sem, c0, c1, c2]) rfl ?_
    exact ⟨_, rfl, ⟨A, c, by rw [HNL.out], by rw [HNL.out]; exact f1⟩, below3 S5.out (Nat.le_refl _) _ _ _⟩
  · have he' : (en != 0) = true := by simpa using he
    rw [if_pos he]
    go_enter Try.func13, Try.ntmps13
    go_upto_region 1 with (fail)
    rw [HW0.out]
    clear HW0
    go_upto_region 3 with (first
      | (go_at_call 15; (with_reducible refine HNEW.out.mono ?_); rintro e w1 ⟨rb, rfl, hrb, hr1, hb1⟩; have HRB := Lib.hid hrb; have HR1 := Lib.hid hr1; have HB1 := Lib.hid hb1; clear hrb hr1 hb1)
      | (go_at_call 16; (with_reducible refine (HTK.out _ _ HR1.out).mono ?_); rintro e w2 ⟨u2, rfl, ⟨A, c, rfl, hL2⟩, hr2, hg2⟩; dsimp only at hL2 hr2 ⊢; have HL2 := Lib.hid hL2; have HR2 := Lib.hid hr2; have HG2 := Lib.hid hg2; clear hL2 hr2 hg2; obtain ⟨n, hn⟩ : ∃ n, ls.length = n := ⟨_, rfl⟩; rw [hn]))
    obtain ⟨W3, hW3⟩ : ∃ W, w2.alloc (.cells #[.int .i64 k, .int .i64 g, .slice A n c] 30) = W := ⟨_, rfl⟩
    obtain ⟨s1, s2, s3, s4, s5, s6⟩ := START.out w1 w2 W3 rb n c A HB1.out HRB.out HG2.out HL2.out HR2.out hn.symm hW3
    rw [hW3]
    obtain ⟨hb, hbe⟩ : ∃ b, w2.heap.size = b := ⟨_, rfl⟩
    rw [hbe] at s1 ⊢
    obtain ⟨x0, x1, x2⟩ := box3 s1
    have lh := lt_of s1
    obtain ⟨y0, y1, y2⟩ := box3 s2
    obtain ⟨z0, z1, z2⟩ := froz3 s2
    have lv := lt_of s2
    have S2 := Lib.hid s2
    have S3 := Lib.hid s3
    have S4 := Lib.hid s4
    have S5 := Lib.hid s5
    have HNL := Lib.hid hn
    clear s1 s2 s3 s4 s5 s6 hbe hW3 hn START HL2 HR2 HG2 HR1 HB1 HRB HTK HNEW
    go_wp2_with (go_at_call 25; (with_reducible refine (HEND.out _ _ S4.out).mono ?_); rintro e w5 ⟨rfl, rfl⟩)
    obtain ⟨c0, c1, c2⟩ := box3 (set3 S2.out (.int .i64 0) (.int .i64 0) (.slice none 0 0))
    refine bodyPost_ret (v := .tuple #[hv 0 0 (.slice none 0 0), .int .i64 en]) (by simp [results, Try.results13, go_sem, c0, c1, c2]) rfl ?_
    exact ⟨_, rfl, ToldH.zero _, below3 S5.out (Nat.le_refl _) _ _ _⟩
end Go.Proofs.Ytmdknedngiggdaa
end
