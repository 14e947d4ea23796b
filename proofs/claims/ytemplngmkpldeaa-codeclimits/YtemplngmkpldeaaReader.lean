/- The contracts of codec's reader. -/
import Derived.Test.YtemplngmkpldeaaCodec
namespace Go.Proofs.Ytemplngmkpldeaa
open Go.RowKit Go.Proofs.Vm

/-- A reader at block rb: the bytes bs are left, e was wrong. -/
def Rd (w : World) (rb : Nat) (bs : List Int) (e : Int) : Prop :=
  ∃ v, w.heap[rb]? = some (.cells #[v, .int .i64 e] 53) ∧ Holds w rb v bs

theorem Rd.keep {w w' : World} {rb : Nat} {bs : List Int} {e : Int} (h : Rd w rb bs e) (hk : ∀ b, b ≤ rb → w'.heap[b]? = w.heap[b]?) : Rd w' rb bs e := by
  obtain ⟨v, h1, h2⟩ := h
  exact ⟨v, (hk rb (Nat.le_refl _)).trans h1, h2.keep fun b o hb => World.cell?_of_block (a := ⟨b, o, none⟩) (hk b (by omega))⟩
theorem Rd.lt {w : World} {rb : Nat} {bs : List Int} {e : Int} (h : Rd w rb bs e) : rb < w.heap.size := by
  obtain ⟨v, h1, _⟩ := h
  exact (Array.getElem?_eq_some_iff.1 h1).1
theorem Rd.below {w w' : World} {rb B : Nat} {bs : List Int} {e : Int} (h : Rd w rb bs e) (hb : Below B w w') (hB : rb < B) : Rd w' rb bs e := h.keep fun b h => hb.block b (by omega)
theorem Rd.grown {w w' : World} {rb k : Nat} {bs : List Int} {e : Int} (h : Rd w rb bs e) (hg : w.grownBy w' (some k)) (hk : rb < k) : Rd w' rb bs e := h.keep fun b hb => hg.block b (by have := h.lt; omega) (by simp; omega)
theorem Rd.at {w : World} {rb : Nat} {bs : List Int} {e : Int} (h : Rd w rb bs e) : ∃ A cap, w.cell? ⟨rb, 0, none⟩ = some (.slice A bs.length cap) ∧ w.cell? ⟨rb, 1, none⟩ = some (.int .i64 e) ∧
    w.frozen? ⟨rb, 0, none⟩ = false ∧ w.frozen? ⟨rb, 1, none⟩ = false ∧ bs.length ≤ cap ∧ cap ≤ maxLen ∧ Holds w rb (.slice A bs.length cap) bs := by
  obtain ⟨v, h1, h2⟩ := h
  have h2' := h2
  obtain ⟨A, cap, rfl, h3, h4, _⟩ := h2
  refine ⟨A, cap, ?_, ?_, ?_, ?_, h3, h4, h2'⟩ <;> simp [World.cell?, World.frozen?, h1]

theorem setCell_block {w : World} {b o : Nat} {cs : Array Value} {t : TypeId} (u : Value) (h : w.heap[b]? = some (.cells cs t)) : (w.setCell ⟨b, o, none⟩ u).heap[b]? = some (.cells (cs.setIfInBounds o u) t) := heap_setCell_same w b o cs t u h
theorem grown_setCell (w : World) (b o : Nat) (u : Value) : w.grownBy (w.setCell ⟨b, o, none⟩ u) (some b) := ⟨rfl, rfl, rfl, by simp [World.setCell], fun k _ hk => Below.heap_setCell _ _ _ _ (fun e => hk (by simp [e]))⟩

theorem grownBy_trans {a b c : World} {k : Option Nat} (h : a.grownBy b k) (h2 : b.grownBy c k) : a.grownBy c k :=
  ⟨h2.os.trans h.os, h2.tape.trans h.tape, h2.output.trans h.output, Nat.le_trans h.size h2.size, fun i hi hn => (h2.block i (Nat.lt_of_lt_of_le hi h.size) hn).trans (h.block i hi hn)⟩
theorem grownBy_of_below {a b : World} {k : Option Nat} (h : Below a.heap.size a b) : a.grownBy b k := ⟨h.os, h.tape, h.output, h.size, fun i hi _ => h.block i hi⟩

theorem thn {w a b : World} (h : Below w.heap.size w a) (k : Below a.heap.size a b) : Below w.heap.size w b := h.trans (k.mono h.size)
theorem thnG {w a b : World} {rb : Nat} (h : Below w.heap.size w a) (k : a.grownBy b (some rb)) (hr : w.heap.size ≤ rb) : Below w.heap.size w b := h.grown k h.size (fun j e => by cases e; exact hr)

theorem Rd.setErr {w : World} {rb : Nat} {bs : List Int} {e : Int} (h : Rd w rb bs e) (x : Int) : Rd (w.setCell ⟨rb, 1, none⟩ (.int .i64 x)) rb bs x := by
  obtain ⟨v, h1, h2⟩ := h
  exact ⟨v, setCell_block _ h1, h2.keep fun b o hb => World.cell?_of_block (a := ⟨b, o, none⟩) (Below.heap_setCell w ⟨rb, 1, none⟩ _ b (by show b ≠ rb; omega))⟩
theorem Rd.setRest {w : World} {rb : Nat} {bs cs : List Int} {e : Int} {u : Value} (h : Rd w rb bs e) (hu : Holds w rb u cs) : Rd (w.setCell ⟨rb, 0, none⟩ u) rb cs e := by
  obtain ⟨v, h1, h2⟩ := h
  exact ⟨u, setCell_block _ h1, hu.keep fun b o hb => World.cell?_of_block (a := ⟨b, o, none⟩) (Below.heap_setCell w ⟨rb, 0, none⟩ _ b (by show b ≠ rb; omega))⟩

theorem err_nil (w : World) : Calls Try.prog 24 #[.pointer none] w fun e w' => e = .returned (.int .i64 1) ∧ w = w' := by
  go_enter Try.func24, Try.ntmps24
  go_wp2
  go_ret
  exact ⟨rfl, rfl⟩
theorem err_any {w : World} {rb : Nat} {bs : List Int} {e : Int} (h : Rd w rb bs e) : Calls Try.prog 24 #[.pointer (some ⟨rb, 0, none⟩)] w fun r w' => r = .returned (.int .i64 e) ∧ w = w' := by
  obtain ⟨A, cap, h0, h1, f0, f1, _⟩ := h.at
  clear h
  go_enter Try.func24, Try.ntmps24
  go_wp2
  go_ret
  exact ⟨rfl, rfl⟩
theorem left_nil (w : World) : Calls Try.prog 23 #[.pointer none] w fun e w' => e = .returned (.int .i64 0) ∧ w = w' := by
  go_enter Try.func23, Try.ntmps23
  go_wp2
  go_ret
  exact ⟨rfl, rfl⟩
theorem left_any {w : World} {rb : Nat} {bs : List Int} {e : Int} (h : Rd w rb bs e) : Calls Try.prog 23 #[.pointer (some ⟨rb, 0, none⟩)] w fun r w' => r = .returned (.int .i64 bs.length) ∧ w = w' := by
  obtain ⟨A, cap, h0, h1, f0, f1, _⟩ := h.at
  clear h
  go_enter Try.func23, Try.ntmps23
  go_wp2
  go_ret
  exact ⟨rfl, rfl⟩
theorem end_nil' (w : World) : Calls Try.prog 25 #[.pointer none] w fun e w' => e = .returned (.int .i64 1) ∧ w = w' := by
  go_enter Try.func25, Try.ntmps25
  go_wp2_with (go_at_call 24; (with_reducible refine (err_nil _).mono ?_); rintro e w1 ⟨rfl, rfl⟩)
  go_ret
  exact ⟨rfl, rfl⟩
theorem end_any {w : World} {rb : Nat} {bs : List Int} {e : Int} (h : Rd w rb bs e) : Calls Try.prog 25 #[.pointer (some ⟨rb, 0, none⟩)] w fun r w' => r = .returned (.int .i64 (rEnd bs e)) ∧ w = w' := by
  have HE := Lib.hid (err_any h)
  obtain ⟨A, cap, h0, h1, f0, f1, _⟩ := h.at
  clear h
  by_cases he : e = 0
  · subst he
    by_cases hl : 0 < bs.length
    · go_enter Try.func25, Try.ntmps25
      go_wp2_with (go_at_call 24; (with_reducible refine HE.out.mono ?_); clear HE; rintro e w1 ⟨rfl, rfl⟩)
      go_ret
      exact ⟨by simp [rEnd, hl], rfl⟩
    · have hl' : bs.length = 0 := by omega
      go_enter Try.func25, Try.ntmps25
      go_wp2_with (go_at_call 24; (with_reducible refine HE.out.mono ?_); clear HE; rintro e w1 ⟨rfl, rfl⟩)
      go_ret
      exact ⟨by simp [rEnd, hl], rfl⟩
  · have he' : (e != 0) = true := by simpa using he
    go_enter Try.func25, Try.ntmps25
    go_wp2_with (go_at_call 24; (with_reducible refine HE.out.mono ?_); clear HE; rintro e w1 ⟨rfl, rfl⟩)
    go_ret
    exact ⟨by simp [rEnd, he], rfl⟩

theorem fail_nil (w : World) (x : Int) : Calls Try.prog 22 #[.pointer none, .int .i64 x] w fun e w' => (∃ v, e = .returned v) ∧ w = w' := by
  go_enter Try.func22, Try.ntmps22
  go_wp2_with (go_at_call 24; (with_reducible refine (err_nil _).mono ?_); rintro e w1 ⟨rfl, rfl⟩)
  refine bodyPost_end (results_none rfl _ _ _) rfl ?_
  exact ⟨⟨_, rfl⟩, rfl⟩
theorem fail_any {w : World} {rb : Nat} {bs : List Int} {e : Int} (h : Rd w rb bs e) (x : Int) : Calls Try.prog 22 #[.pointer (some ⟨rb, 0, none⟩), .int .i64 x] w fun r w' => (∃ v, r = .returned v) ∧ Rd w' rb bs (rFail e x) ∧ w.grownBy w' (some rb) := by
  have HE := Lib.hid (err_any h)
  have HR := Lib.hid h
  obtain ⟨A, cap, h0, h1, f0, f1, _⟩ := h.at
  clear h
  by_cases he : e = 0
  · subst he
    go_enter Try.func22, Try.ntmps22
    go_wp2_with (go_at_call 24; (with_reducible refine HE.out.mono ?_); clear HE; rintro e w1 ⟨rfl, rfl⟩)
    refine bodyPost_end (results_none rfl _ _ _) rfl ?_
    exact ⟨⟨_, rfl⟩, by simpa [rFail] using HR.out.setErr x, grown_setCell _ _ _ _⟩
  · have he' : (e == 0) = false := by simpa using he
    go_enter Try.func22, Try.ntmps22
    go_wp2_with (go_at_call 24; (with_reducible refine HE.out.mono ?_); clear HE; rintro e w1 ⟨rfl, rfl⟩)
    refine bodyPost_end (results_none rfl _ _ _) rfl ?_
    exact ⟨⟨_, rfl⟩, by simpa [rFail, he] using HR.out, World.grownBy.refl _ _⟩

/-- The three results of 'number'. -/
def nk (r : Nat × Nat × Int) : Ending := .returned (.tuple #[.int .u64 (r.1 : Int), .int .i64 (r.2.1 : Int), .int .i64 r.2.2])
theorem nk_mk {x y z : Int} {r : Nat × Nat × Int} (h1 : x = r.1) (h2 : y = r.2.1) (h3 : z = r.2.2) : Ending.returned (.tuple #[.int .u64 x, .int .i64 y, .int .i64 z]) = nk r := by rw [h1, h2, h3]; rfl

theorem number_nil (w : World) (m : Int) : Calls Try.prog 30 #[.pointer none, .int .u64 m] w fun r w' => r = nk (0, 0, 1) ∧ w = w' := by
  go_enter Try.func30, Try.ntmps30
  go_wp2_with (go_at_call 24; (with_reducible refine (err_nil _).mono ?_); rintro e w1 ⟨rfl, rfl⟩)
  go_ret3
  exact ⟨rfl, rfl⟩

theorem number_any {w : World} {rb : Nat} {bs : List Int} {e : Int} (h : Rd w rb bs e) (hb : ∀ x ∈ bs, 0 ≤ x ∧ x ≤ 255) (most : Nat) : Calls Try.prog 30 #[.pointer (some ⟨rb, 0, none⟩), .int .u64 most] w fun r w' => r = nk (rnum bs e most) ∧ w = w' := by
  have HE := Lib.hid (err_any h)
  obtain ⟨A, cap, h0, h1, f0, f1, _, _, hh⟩ := h.at
  have HT := Lib.hid (take_any hh hb)
  clear h hh
  by_cases he : e = 0
  · subst he
    obtain ⟨n, k, c, ht⟩ : ∃ n k c, vtake bs = (n, k, c) := ⟨_, _, _, rfl⟩
    have HN := Lib.hid (rnum_of (most := most) ht)
    rw [ht] at HT
    clear ht
    by_cases hc : c = 0
    · subst hc
      by_cases hm : most < n
      · go_enter Try.func30, Try.ntmps30
        go_wp2_with (first
          | (go_at_call 24; (with_reducible refine HE.out.mono ?_); clear HE; rintro e w1 ⟨rfl, rfl⟩)
          | (go_at_call 35; (with_reducible refine HT.out.mono ?_); clear HT; rintro e w1 ⟨rfl, rfl⟩; dsimp only [tk]))
        go_ret3
        exact ⟨by rw [HN.out, if_neg (by simp), if_pos hm]; rfl, rfl⟩
      · have hm' : ¬ (most : Int) < n := by omega
        go_enter Try.func30, Try.ntmps30
        go_wp2_with (first
          | (go_at_call 24; (with_reducible refine HE.out.mono ?_); clear HE; rintro e w1 ⟨rfl, rfl⟩)
          | (go_at_call 35; (with_reducible refine HT.out.mono ?_); clear HT; rintro e w1 ⟨rfl, rfl⟩; dsimp only [tk]))
        go_ret3
        exact ⟨by rw [HN.out, if_neg (by simp), if_neg hm]; rfl, rfl⟩
    · have hc' : ((c : Int) != 0) = true := by simpa using hc
      go_enter Try.func30, Try.ntmps30
      go_wp2_with (first
        | (go_at_call 24; (with_reducible refine HE.out.mono ?_); clear HE; rintro e w1 ⟨rfl, rfl⟩)
        | (go_at_call 35; (with_reducible refine HT.out.mono ?_); clear HT; rintro e w1 ⟨rfl, rfl⟩; dsimp only [tk]))
      go_ret3
      exact ⟨by rw [HN.out, if_pos hc]; rfl, rfl⟩
  · have he' : (e != 0) = true := by simpa using he
    have HN := Lib.hid (rnum_bad (bs := bs) (most := most) he)
    go_enter Try.func30, Try.ntmps30
    go_wp2_with (go_at_call 24; (with_reducible refine HE.out.mono ?_); clear HE; rintro e w1 ⟨rfl, rfl⟩)
    go_ret3
    exact ⟨by rw [HN.out]; rfl, rfl⟩

/-- What is behind the first k bytes. -/
theorem Holds.drop {w : World} {B : Nat} {A : Option Addr} {cap : Nat} {bs : List Int} (h : Holds w B (.slice A bs.length cap) bs) (k : Nat) (hk : k ≤ bs.length) : Holds w B (.slice (Option.map (fun x => x.add k) A) (bs.length - k) (cap - k)) (bs.drop k) := by
  obtain ⟨A', cap', hv, h1, h2, h3⟩ := h
  injection hv with e1 e2 e3
  subst e3
  have hl : (bs.drop k).length = bs.length - k := by simp
  refine ⟨_, cap - k, by rw [hl], by omega, by omega, ?_⟩
  rcases h3 with rfl | ⟨b, off, hb, hA, hc⟩
  · exact .inl (by simp)
  · rw [← e1] at hA
    subst hA
    refine .inr ⟨b, off + k, hb, by simp [add_plain], fun j hj => ?_⟩
    rw [hl] at hj
    rw [Nat.add_assoc, hc (k + j) (by omega), List.getD_eq_getElem?_getD, List.getD_eq_getElem?_getD, List.getElem?_drop]

theorem Holds.nothing {w : World} {B : Nat} (A : Option Addr) (cap : Nat) (h : cap ≤ maxLen) : Holds w B (.slice A 0 cap) [] := ⟨A, cap, rfl, by simp, h, .inl rfl⟩
/-- The first k bytes, without room behind. -/
theorem Holds.cut {w : World} {B : Nat} {A : Option Addr} {cap : Nat} {bs : List Int} (h : Holds w B (.slice A bs.length cap) bs) (k c : Nat) (hk : k ≤ bs.length) (hc : k ≤ c) (hm : c ≤ maxLen) : Holds w B (.slice A k c) (bs.take k) := by
  have h' := h.take k hk
  obtain ⟨A', cap', hv, h1, h2, h3⟩ := h'
  injection hv with e1 e2 e3
  subst e1; subst e3
  exact ⟨A, c, by rw [← e2], by omega, hm, h3⟩

set_option maxHeartbeats 1000000 in
theorem cut_any {w : World} {rb : Nat} {bs : List Int} {e : Int} (h : Rd w rb bs e) (n : Nat) (hn : n ≤ bs.length) : Calls Try.prog 31 #[.pointer (some ⟨rb, 0, none⟩), .int .i64 n] w fun r w' => ∃ v, r = .returned v ∧ Holds w' rb v (bs.take n) ∧ Rd w' rb (bs.drop n) e ∧ w.grownBy w' (some rb) := by
  have HR := Lib.hid h
  obtain ⟨A, cap, h0, h1, f0, f1, h2, h3, hh⟩ := h.at
  have HH := Lib.hid hh
  unfold maxLen at h3
  clear h hh
  go_enter Try.func31, Try.ntmps31
  go_wp2
  · go_ret
    obtain rfl : n = bs.length := by omega
    refine ⟨_, rfl, ?_, ?_, grown_setCell _ _ _ _⟩
    · exact (HH.out.cut bs.length bs.length hn (by omega) (by unfold maxLen; omega)).keep fun b o hb => World.cell?_of_block (a := ⟨b, o, none⟩) (Below.heap_setCell w ⟨rb, 0, none⟩ _ b (by show b ≠ rb; omega))
    · refine HR.out.setRest ?_
      rw [List.drop_of_length_le (Nat.le_refl _), Nat.sub_self]
      exact Holds.nothing _ _ (by decide)
  · go_ret
    refine ⟨_, rfl, ?_, ?_, grown_setCell _ _ _ _⟩
    · exact (HH.out.cut n n hn (by omega) (by unfold maxLen; omega)).keep fun b o hb => World.cell?_of_block (a := ⟨b, o, none⟩) (Below.heap_setCell w ⟨rb, 0, none⟩ _ b (by show b ≠ rb; omega))
    · exact HR.out.setRest (HH.out.drop n hn)

theorem cut_at {w : World} {rb : Nat} {bs : List Int} {e : Int} (h : Rd w rb bs e) (m : Int) (n : Nat) (hm : m = n) (hn : n ≤ bs.length) : Calls Try.prog 31 #[.pointer (some ⟨rb, 0, none⟩), .int .i64 m] w fun r w' => ∃ v, r = .returned v ∧ Holds w' rb v (bs.take n) ∧ Rd w' rb (bs.drop n) e ∧ w.grownBy w' (some rb) := by
  subst hm; exact cut_any h n hn

theorem new_any {w : World} {v : Value} {bs : List Int} (h : Holds w w.heap.size v bs) (hl : bs.length ≤ 1000000) :
    Calls Try.prog 15 #[v] w fun r w' => ∃ rb, r = .returned (.pointer (some ⟨rb, 0, none⟩)) ∧ w.heap.size ≤ rb ∧ Rd w' rb bs 0 ∧ Below w.heap.size w w' := by
  have HC := Lib.hid (clone_any h hl)
  clear h
  go_enter Try.func15, Try.ntmps15
  go_wp2_with (go_at_call 29; (with_reducible refine HC.out.mono ?_); clear HC; rintro e w1 ⟨v1, rfl, h1, hb1⟩; have H1 := Lib.hid h1; obtain ⟨A1, cap1, rfl, _, _, _⟩ := h1; have HB1 := Lib.hid hb1; clear hb1)
  go_ret
  refine ⟨_, rfl, HB1.out.size, ⟨_, World.alloc_heap_new _ _, H1.out.alloc (Nat.le_refl _) _⟩, HB1.out.alloc HB1.out.size _⟩

theorem rnumF {w : World} {rb : Nat} {bs : List Int} {e : Int} (h : Rd w rb bs e) (hb : ∀ x ∈ bs, 0 ≤ x ∧ x ≤ 255) (most : Nat) : Calls Try.prog 16 #[.pointer (some ⟨rb, 0, none⟩), .int .u64 most] w fun r w' =>
    r = .returned (.int .u64 ((rNum bs e most).2.2 : Int)) ∧ Rd w' rb (rNum bs e most).1 (rNum bs e most).2.1 ∧ w.grownBy w' (some rb) := by
  have HR := Lib.hid h
  have HN := Lib.hid (number_any h hb most)
  have hbd := rnum_bounds bs hb e most
  obtain ⟨r, hr⟩ : ∃ r, rnum bs e most = r := ⟨_, rfl⟩
  have HD : Hid (rNum bs e most = if r.2.2 ≠ 0 then (bs, r.2.2, 0) else (bs.drop r.2.1, 0, r.1)) := by rw [← hr]; rfl
  have HFE : Hid (r.2.2 ≠ 0 → rFail e r.2.2 = r.2.2) := by
    intro h0
    unfold rFail
    split
    · rfl
    · rename_i he; rw [← hr, rnum_bad he]
  have HZ : Hid (r.2.2 = 0 → e = 0) := by
    intro h0
    rcases Decidable.em (e = 0) with he | he
    · exact he
    · rw [← hr, rnum_bad he] at h0; exact h0
  rw [hr] at HN hbd
  clear hr h
  obtain ⟨n, k, c⟩ := r
  obtain ⟨hb1, hb2⟩ := hbd
  have hb3 : (n : Int) ≤ 18446744073709551615 := by simp only at hb1; omega
  dsimp only at hb2 HD HFE HZ
  clear hb1
  by_cases hc : c = 0
  · subst hc
    obtain rfl := HZ.out rfl
    rw [if_neg (by simp)] at HD
    go_enter Try.func16, Try.ntmps16
    go_wp2_with (first
      | (go_at_call 30; (with_reducible refine HN.out.mono ?_); clear HN; rintro e w1 ⟨rfl, rfl⟩; dsimp only [nk])
      | (go_at_call 31; (with_reducible refine (cut_any HR.out k hb2).mono ?_); rintro e w1 ⟨v1, rfl, h1, h2, h3⟩; have H2 := Lib.hid h2; have H3 := Lib.hid h3; clear h1 h2 h3))
    go_ret
    rw [HD.out]
    exact ⟨rfl, H2.out, H3.out⟩
  · have hc' : (c != 0) = true := by simpa using hc
    rw [if_pos hc] at HD
    go_enter Try.func16, Try.ntmps16
    go_wp2_with (first
      | (go_at_call 30; (with_reducible refine HN.out.mono ?_); clear HN; rintro e w1 ⟨rfl, rfl⟩; dsimp only [nk])
      | (go_at_call 22; (with_reducible refine (fail_any HR.out c).mono ?_); rintro e w1 ⟨⟨v1, rfl⟩, h2, h3⟩; have H2 := Lib.hid h2; have H3 := Lib.hid h3; clear h2 h3))
    go_ret
    rw [HD.out]
    have h2 := H2.out
    rw [HFE.out hc] at h2
    exact ⟨rfl, h2, H3.out⟩

theorem rnumF_at {w : World} {rb : Nat} {bs : List Int} {e : Int} (h : Rd w rb bs e) (hb : ∀ x ∈ bs, 0 ≤ x ∧ x ≤ 255) (m : Int) (most : Nat) (hm : m = most) : Calls Try.prog 16 #[.pointer (some ⟨rb, 0, none⟩), .int .u64 m] w fun r w' =>
    r = .returned (.int .u64 ((rNum bs e most).2.2 : Int)) ∧ Rd w' rb (rNum bs e most).1 (rNum bs e most).2.1 ∧ w.grownBy w' (some rb) := by
  subst hm; exact rnumF h hb most

theorem rnum_nil (w : World) (m : Int) : Calls Try.prog 16 #[.pointer none, .int .u64 m] w fun r w' => r = .returned (.int .u64 0) ∧ w = w' := by
  go_enter Try.func16, Try.ntmps16
  go_wp2_with (first
    | (go_at_call 30; (with_reducible refine (number_nil _ _).mono ?_); rintro e w1 ⟨rfl, rfl⟩; dsimp only [nk])
    | (go_at_call 22; (with_reducible refine (fail_nil _ _).mono ?_); rintro e w1 ⟨⟨v1, rfl⟩, rfl⟩))
  go_ret
  exact ⟨rfl, rfl⟩
theorem rfixed_nil (w : World) : Calls Try.prog 18 #[.pointer none] w fun r w' => r = .returned (.int .u64 0) ∧ w = w' := by
  go_enter Try.func18, Try.ntmps18
  go_wp2_with (go_at_call 24; (with_reducible refine (err_nil _).mono ?_); rintro e w1 ⟨rfl, rfl⟩)
  go_ret
  exact ⟨rfl, rfl⟩
theorem rtext_nil (w : World) (m : Int) : Calls Try.prog 20 #[.pointer none, .int .i64 m] w fun r w' => r = .returned (.slice none 0 0) ∧ w = w' := by
  go_enter Try.func20, Try.ntmps20
  go_wp2_with (first
    | (go_at_call 30; (with_reducible refine (number_nil _ _).mono ?_); rintro e w1 ⟨rfl, rfl⟩; dsimp only [nk])
    | (go_at_call 22; (with_reducible refine (fail_nil _ _).mono ?_); rintro e w1 ⟨⟨v1, rfl⟩, rfl⟩))
  all_goals (go_ret; exact ⟨rfl, rfl⟩)

theorem or_byte (n d : Nat) (hn : n < 72057594037927936) (hd : d < 256) : bits BinOp.or IntKind.u64 (n * 256 : Int) (d : Int) = ((256 * n + d : Nat) : Int) := by
  have e : ((n : Int) * 256) = ((n * 256 : Nat) : Int) := by omega
  rw [e, bits_or_u64_nat _ _ (by omega) (by omega)]
  congr 1
  have := Nat.two_pow_add_eq_or_of_lt (i := 8) (b := d) (by simpa using hd) n
  rw [Nat.mul_comm n, show (256 : Nat) = 2 ^ 8 by decide, this]

/-- A cell of bytes that lie. -/
theorem Holds.cellAt {w : World} {B : Nat} {A : Option Addr} {len cap : Nat} {bs : List Int} (h : Holds w B (.slice A len cap) bs) (j : Nat) (hj : j < bs.length) : ∃ b off, A = some ⟨b, off, none⟩ ∧ w.cell? ⟨b, off + j, none⟩ = some (.int .u8 (bs.getD j 0)) := by
  obtain ⟨A', cap', hv, h1, h2, h3⟩ := h
  injection hv with e1 e2 e3
  rcases h3 with rfl | ⟨b, off, hb, hA, hc⟩
  · simp at hj
  · exact ⟨b, off, e1.trans hA, hc j hj⟩

set_option maxRecDepth 100000 in
set_option maxHeartbeats 1000000 in
theorem rfixed_any {w : World} {rb : Nat} {bs : List Int} {e : Int} (h : Rd w rb bs e) (hb : ∀ x ∈ bs, 0 ≤ x ∧ x ≤ 255) : Calls Try.prog 18 #[.pointer (some ⟨rb, 0, none⟩)] w fun r w' =>
    r = .returned (.int .u64 ((rFixed bs e).2.2 : Int)) ∧ Rd w' rb (rFixed bs e).1 (rFixed bs e).2.1 ∧ w.grownBy w' (some rb) := by
  have HR := Lib.hid h
  have HE := Lib.hid (err_any h)
  obtain ⟨A, cap, h0, h1, f0, f1, h2, h3, _⟩ := h.at
  unfold maxLen at h3
  clear h
  by_cases he : e = 0
  · subst he
    by_cases hl : bs.length < 8
    · go_enter Try.func18, Try.ntmps18
      go_wp2_with (first
        | (go_at_call 24; (with_reducible refine HE.out.mono ?_); clear HE; rintro e w1 ⟨rfl, rfl⟩)
        | (go_at_call 22; (with_reducible refine (fail_any HR.out 3).mono ?_); rintro e w1 ⟨⟨v1, rfl⟩, h2, h3⟩; have H2 := Lib.hid h2; have H3 := Lib.hid h3; clear h2 h3))
      go_ret
      have h2 := H2.out
      exact ⟨by simp [rFixed, hl], by simpa [rFixed, hl, rFail] using h2, H3.out⟩
    · go_enter Try.func18, Try.ntmps18
      go_wp2_with (first
        | (go_at_call 24; (with_reducible refine HE.out.mono ?_); clear HE; rintro e w1 ⟨rfl, rfl⟩)
        | (go_at_call 31; (with_reducible refine (cut_at HR.out 8 8 rfl (by omega)).mono ?_); rintro e w1 ⟨v1, rfl, h1, h2, h3⟩; have H1 := Lib.hid h1; obtain ⟨A1, cap1, rfl, q1, q2, _⟩ := h1; have q3 : (bs.take 8).length = 8 := (by simp; omega); rw [q3] at q1 H1 ⊢; clear q3; have H2 := Lib.hid h2; have H3 := Lib.hid h3; clear h2 h3))
      have hp7 : (256 : Nat) ^ 7 = 72057594037927936 := by decide
      have HP7 := Lib.hid hp7
      clear hp7
      go_loop [3, 20] (fun n i => ∃ k : Nat, k ≤ 8 ∧ i = .int .i64 k ∧ n = .int .u64 (ufix bs k : Int)) (fun _ i => 8 - (intOf i).toNat)
      case atStart => exact ⟨0, by omega, rfl, rfl⟩
      case round =>
        obtain ⟨k, hk, rfl, rfl⟩ := hrel
        by_cases hlt : k < 8
        · obtain ⟨b, off, hA1, hcell⟩ := H1.out.cellAt k (by simp; omega)
          subst hA1
          have hd := getD_bounds hb k
          obtain ⟨d, hdd⟩ : ∃ d : Nat, bs.getD k 0 = d := ⟨(bs.getD k 0).toNat, by omega⟩
          rw [List.getD_eq_getElem?_getD, List.getElem?_take_of_lt hlt, ← List.getD_eq_getElem?_getD, hdd] at hcell
          have hu := ufix_lt hb k
          have hu7 : (256 : Nat) ^ k ≤ 256 ^ 7 := Nat.pow_le_pow_right (by omega) (by omega)
          rw [HP7.out] at hu7
          have hu2 : ufix bs k < 72057594037927936 := by omega
          have hu3 : (ufix bs k : Int) ≤ 72057594037927935 := by omega
          have hu4 : (ufix bs k : Int) * 256 ≤ 18446744073709551615 := by omega
          have hd2 : (d : Int) ≤ 255 := by omega
          have HO := Lib.hid (or_byte (ufix bs k) d hu2 (by omega))
          have HS : Hid (ufix bs (k + 1) = 256 * ufix bs k + d) := by show ufix bs (k + 1) = _; rw [ufix, hdd]; simp
          clear hu hu7 hd hdd hu2
          obtain ⟨n, hn⟩ : ∃ n, ufix bs k = n := ⟨_, rfl⟩
          rw [hn] at hu3 hu4 HO HS ⊢
          clear hn HP7 hb HR
          go_wp2
          go_round
          case rel => exact ⟨k + 1, by omega, by go_num, by rw [HO.out, HS.out]⟩
          case measure => simp [intOf]; omega
        · obtain rfl : k = 8 := by omega
          clear hlt hb
          go_wp2
          go_ret
          have hq : rFixed bs 0 = (bs.drop 8, 0, ufix bs 8) := by simp [rFixed, hl]
          rw [hq]
          exact ⟨rfl, H2.out, H3.out⟩
  · have he' : (e != 0) = true := by simpa using he
    go_enter Try.func18, Try.ntmps18
    go_wp2_with (go_at_call 24; (with_reducible refine HE.out.mono ?_); clear HE; rintro e w1 ⟨rfl, rfl⟩)
    go_ret
    exact ⟨by simp [rFixed, he], by simpa [rFixed, he] using HR.out, World.grownBy.refl _ _⟩

theorem u8_splice (bs : List Int) (z : List Value) (hl : z.length = bs.length) : splice z 0 (bs.map (Value.int .u8)) = bs.map (Value.int .u8) := by
  simp [splice, hl]
/-- A row that is owned whole. -/
theorem own_block {w : World} {base e g n : Nat} {xs : List Value} (h : w.ownsRow base e 1 (.slice (some ⟨g, 0, none⟩) n n) n xs) : w.heap[g]? = some (.cells xs.toArray e (0, 0)) ∧ xs.length = n := by
  rcases h.2 with ⟨h', _⟩ | ⟨g', cap', cur, h', _, hg, _, _, hs, htake⟩
  · simp at h'
  · simp only [Value.slice.injEq, Option.some.injEq, Addr.mk.injEq, and_true, true_and] at h'
    obtain ⟨rfl, rfl⟩ := h'
    rw [List.take_of_length_le (by rw [Array.length_toList, hs]; exact Nat.le_refl _)] at htake
    subst htake
    exact ⟨by simpa using hg, by simpa using hs⟩

theorem own_form {w : World} {base e size n c : Nat} {A : Option Addr} {xs : List Value} (h : w.ownsRow base e size (.slice A n c) n xs) (hn : 0 < n) : ∃ g, A = some ⟨g, 0, none⟩ ∧ base ≤ g := by
  rcases h.2 with ⟨_, h0⟩ | ⟨g, cap, cur, h', hg, _⟩
  · omega
  · injection h' with e1
    exact ⟨g, e1, hg⟩
/-- What is owned below B stays so where all below B stays. -/
theorem ownsRow_belowB {w w' : World} {base B : Nat} {e : TypeId} {size : Nat} {v : Value} {n : Nat} {xs : List Value} (h : w.ownsRow base e size v n xs) (hl : ∀ k, v.ownBlock = some k → k < B) (hb : Below B w w') : w'.ownsRow base e size v n xs := by
  refine ⟨h.1, ?_⟩
  rcases h.2 with h1 | ⟨g, cap, cur, hv, hg, hh, r⟩
  · exact .inl h1
  · exact .inr ⟨g, cap, cur, hv, hg, (hb.block g (hl g (by rw [hv]; rfl))).trans hh, r⟩

theorem copy_src {w : World} {B : Nat} {A : Option Addr} {len cap : Nat} {bs : List Int} (h : Holds w B (.slice A len cap) bs) (hp : 0 < bs.length) : ∃ ad, A = some ad ∧ ∀ (j : Nat) (v : Value), (bs.map (Value.int .u8))[j]? = some v → w.cell? (ad.add j) = some v := by
  obtain ⟨b, off, rfl, _⟩ := h.cellAt 0 hp
  refine ⟨_, rfl, fun j v hv => ?_⟩
  have hj : j < bs.length := by have := (List.getElem?_eq_some_iff.1 hv).1; simpa using this
  obtain ⟨b', off', e, hc⟩ := h.cellAt j hj
  cases e
  rw [add_plain, hc]
  rw [List.getElem?_map, List.getElem?_eq_getElem hj] at hv
  rw [List.getD_eq_getElem?_getD, List.getElem?_eq_getElem hj]
  simpa using hv

set_option maxRecDepth 100000 in
set_option maxHeartbeats 2000000 in
theorem rtext_any {w : World} {rb : Nat} {bs : List Int} {e : Int} (h : Rd w rb bs e) (hb : ∀ x ∈ bs, 0 ≤ x ∧ x ≤ 255) (hlen : bs.length ≤ 1000000) (most : Int) (hm1 : -9223372036854775808 ≤ most) (hm2 : most ≤ 9223372036854775807) :
    Calls Try.prog 20 #[.pointer (some ⟨rb, 0, none⟩), .int .i64 most] w fun r w' =>
    ∃ v, r = .returned v ∧ w'.ownsRow w.heap.size 5 1 v (rText bs e most).2.2.length ((rText bs e most).2.2.map (Value.int .u8)) ∧ Rd w' rb (rText bs e most).1 (rText bs e most).2.1 ∧ w.grownBy w' (some rb) := by
  obtain ⟨i0, hi, hz0, hz1, hz2⟩ := info_parts info5
  have HR := Lib.hid h
  have HN := Lib.hid (number_any h hb most.toNat)
  have hbd := rnum_bounds bs hb e most.toNat
  obtain ⟨r, hr⟩ : ∃ r, rnum bs e most.toNat = r := ⟨_, rfl⟩
  have HD : Hid (rText bs e most = if r.2.2 ≠ 0 then (bs, r.2.2, []) else if bs.length - r.2.1 < r.1 then (bs, 3, []) else (bs.drop (r.2.1 + r.1), 0, (bs.drop r.2.1).take r.1)) := by rw [← hr]; rfl
  have HFE : Hid (r.2.2 ≠ 0 → rFail e r.2.2 = r.2.2) := by
    intro h0
    unfold rFail
    split
    · rfl
    · rename_i he; rw [← hr, rnum_bad he]
  have HZ : Hid (r.2.2 = 0 → e = 0) := by
    intro h0
    rcases Decidable.em (e = 0) with he | he
    · exact he
    · rw [← hr, rnum_bad he] at h0; exact h0
  rw [hr] at HN hbd
  clear hr
  obtain ⟨n, k, c⟩ := r
  obtain ⟨hb1, hb2⟩ := hbd
  have hb3 : (n : Int) ≤ 18446744073709551615 := by simp only at hb1; omega
  dsimp only at hb2 HD HFE HZ
  obtain ⟨A, cap, h0, h1, f0, f1, h2, h3, _⟩ := h.at
  unfold maxLen at h3
  clear hb1 h hb
  obtain ⟨m, hm⟩ : ∃ m, (most.toNat : Int) = m := ⟨_, rfl⟩
  rw [hm] at HN
  have hmm : (0 ≤ most ∧ m = most) ∨ (most < 0 ∧ m = 0) := by omega
  clear hm
  rcases hmm with ⟨hmp, rfl⟩ | ⟨hmp, rfl⟩
  all_goals
    by_cases hc : c = 0
    · subst hc
      obtain rfl := HZ.out rfl
      rw [if_neg (by simp)] at HD
      by_cases hs : bs.length - k < n
      · rw [if_pos hs] at HD
        have hs' : (bs.length : Int) - k < n := by omega
        have hs0 : 0 ≤ (bs.length : Int) - k := by omega
        go_enter Try.func20, Try.ntmps20
        go_wp2_with (first
          | (go_at_call 30; (with_reducible refine HN.out.mono ?_); clear HN; rintro e w1 ⟨rfl, rfl⟩; dsimp only [nk])
          | (go_at_call 22; (with_reducible refine (fail_any HR.out 3).mono ?_); rintro e w1 ⟨⟨v1, rfl⟩, h2, h3⟩; have H2 := Lib.hid h2; have H3 := Lib.hid h3; clear h2 h3))
        go_ret
        rw [HD.out]
        exact ⟨_, rfl, World.ownsRow_nil _ _ _ _, H2.out, H3.out⟩
      · rw [if_neg hs] at HD
        have hs' : (n : Int) ≤ (bs.length : Int) - k := by omega
        have hs0 : 0 ≤ (bs.length : Int) - k := by omega
        have hs1 : n ≤ 1000000 := by omega
        go_enter Try.func20, Try.ntmps20
        go_wp2_with (first
          | (go_at_call 30; (with_reducible refine HN.out.mono ?_); clear HN; rintro e w1 ⟨rfl, rfl⟩; dsimp only [nk])
          | (go_at_call 31; (with_reducible refine (cut_any HR.out k hb2).mono ?_); rintro e w1 ⟨v1, rfl, _, g2, g3⟩; have H2 := Lib.hid g2; have H3 := Lib.hid g3; clear g2 g3)
          | (at_make; refine wpList_make_full _ rfl _ _ 23 rfl w1.heap.size 5 i0 (.int .u8 0) 1 Try.underlying23 hi hz0 hz1 .u64 .u64 n n n rfl rfl rfl rfl (by rw [hz2]; omega) (by unfold maxLen; omega) (Nat.le_refl _) ?_; intro wm hown hgm; have HO := Lib.hid hown; have HG := Lib.hid hgm; have HRM := Lib.hid (H2.out.keep (fun b hb => hgm.block b (Nat.lt_of_le_of_lt hb H2.out.lt) (by simp))); clear hown hgm)
          | (go_at_call 31; (with_reducible refine (cut_any HRM.out n (by simp; omega)).mono ?_); rintro e w2 ⟨v2, rfl, g1, g2, g3⟩; have q3 : ((bs.drop k).take n).length = n := (by simp; omega); have J1 := Lib.hid g1; obtain ⟨A2, cap2, rfl, _, _, _⟩ := g1; rw [q3] at J1 ⊢; have Q3 := Lib.hid q3; clear q3; have J2 := Lib.hid g2; have J3 := Lib.hid g3; have JB := Lib.hid ((g3.block w1.heap.size (HO.out.lt _ rfl).2 (by have := H2.out.lt; simp; omega)).trans (own_block HO.out).1); have JL := Lib.hid (own_block HO.out).2; clear g2 g3)
          | (refine wpList_copy_splice rfl (.tmp 42) (.tmp 46) 23 23 rfl 5 Try.underlying23 (by rw [hi]; simp [hz1]) _ _ _ _ _ _ rfl rfl w1.heap.size 0 _ 5 JB.out (((bs.drop k).take n).map (Value.int .u8)) (by rw [List.length_map, Q3.out]; exact (Nat.min_self n).symm) (fun hp => ⟨rfl, copy_src J1.out (by simpa using hp)⟩) (by rw [List.length_map, Q3.out, JL.out]; omega) (by intro v hv; obtain ⟨y, _, rfl⟩ := List.mem_map.1 hv; rfl) w1.heap.size w2 (Below.refl _ _) (Nat.le_refl _) ?_; intro w3 JG JBe; have JBE := Lib.hid JBe; clear JBe)
          )
        go_ret
        rw [HD.out]
        refine ⟨_, rfl, ?_, ?_, ?_⟩
        · have hg := JG.out
          rw [u8_splice _ _ (by rw [JL.out, Q3.out])] at hg
          dsimp only
          rw [Q3.out]
          exact ⟨by simp; omega, .inr ⟨w1.heap.size, n, _, rfl, H3.out.size, hg, Nat.le_refl _, by unfold maxLen; omega, by simp; omega, by rw [List.take_of_length_le (by simp; omega)]⟩⟩
        · rw [← List.drop_drop]
          exact J2.out.below JBE.out H2.out.lt
        · have g12 : w.grownBy w2 (some rb) := grownBy_trans H3.out (grownBy_trans ⟨HG.out.os, HG.out.tape, HG.out.output, HG.out.size, fun i hi _ => HG.out.block i hi (by simp)⟩ J3.out)
          exact ⟨JBE.out.os.trans g12.os, JBE.out.tape.trans g12.tape, JBE.out.output.trans g12.output, Nat.le_trans g12.size JBE.out.size, fun i hi hn => (JBE.out.block i (Nat.lt_of_lt_of_le hi H3.out.size)).trans (g12.block i hi hn)⟩
    · have hc' : (c != 0) = true := by simpa using hc
      have hc2 : (c == 0) = false := by simpa using hc
      rw [if_pos hc] at HD
      go_enter Try.func20, Try.ntmps20
      go_wp2_with (first
        | (go_at_call 30; (with_reducible refine HN.out.mono ?_); clear HN; rintro e w1 ⟨rfl, rfl⟩; dsimp only [nk])
        | (go_at_call 22; (with_reducible refine (fail_any HR.out c).mono ?_); rintro e w1 ⟨⟨v1, rfl⟩, h2, h3⟩; have H2 := Lib.hid h2; have H3 := Lib.hid h3; clear h2 h3))
      go_ret
      rw [HD.out]
      have h2 := H2.out
      rw [HFE.out hc] at h2
      exact ⟨_, rfl, World.ownsRow_nil _ _ _ _, h2, H3.out⟩

end Go.Proofs.Ytemplngmkpldeaa
