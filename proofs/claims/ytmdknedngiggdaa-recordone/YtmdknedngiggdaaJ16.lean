/- skylightlaw10.merged: what the program and the document tell of histograms merged is the same. · Histograms that were made, as a merge is asked of them. · Plain mathematics: an event by itself is as a histogram of its weight. · Plain mathematics: histograms merged in pairs, and in whatever turn. -/
import Derived.Test.YtmdknedngiggdaaJ15
section
/- skylightlaw10.merged: what the program and the document tell of histograms merged is the same. -/
namespace Go.Proofs.Ytmdknedngiggdaa
open Go.RowKit Go.Shelf Go.Proofs.Rw Go.Proofs.Lh Go.Proofs.Rf

theorem out_good {evs : List Ev} {ms : List Hm} (hg : ∀ m ∈ ms, Lh.Good m) : (outM evs ms).2.2 = [] ∨ Lh.Good (outM evs ms) := by
  unfold outM
  split
  · rename_i hb
    exact .inr (merge_made hb hg)
  · exact .inl rfl
theorem out_len {evs : List Ev} {ms : List Hm} (hg : ∀ m ∈ ms, Lh.Good m) : (outM evs ms).2.2.length ≤ 60 ∧ (∀ i, (lev (outM evs ms).2.2 i).length ≤ 1000000) ∧ tot (outM evs ms).2.2 ≤ 4503599627370496 := by
  rcases out_good hg with h | h
  · rw [h]
    exact ⟨by simp, fun i => by rw [lev_ge (by simp)]; simp, by decide⟩
  · exact ⟨Nat.le_trans h.made.len (by omega), fun i => Nat.le_trans (h.made.lev i) (by omega), h.made.small⟩

end Go.Proofs.Ytmdknedngiggdaa
end
section
/- Histograms that were made, as a merge is asked of them. -/
namespace Go.Proofs.Lh
open Go.Proofs.Lm (Sp)
theorem good_play (k : Nat) (h2 : 2 ≤ k) (h1 : k ≤ 1024) (ds : List Sp) (j : Nat) (hj : j ≤ ds.length) (hj2 : j ≤ 1000000) (g : Int) (g0 : 0 ≤ g) (g4 : g ≤ 4) : Good ((k : Int), g, (play k ds j).2) := by
  refine ⟨by show (0 : Int) ≤ (k : Int); omega, by rw [Int.toNat_natCast]; exact play_made h2 h1 ds j hj, fun b hb => ?_, g0, g4⟩
  obtain ⟨us, hr, _, hu, _⟩ := play_rep k ds j hj
  have h3 := hu _ (rep_mem hr b hb)
  have h4 := play_tick k ds j hj
  omega
end Go.Proofs.Lh
namespace Go.Proofs.Ytmdknedngiggdaa
open Go.RowKit Go.Shelf Go.Proofs.Rw Go.Proofs.Lh Go.Proofs.Rf
theorem done_le (ds : List Sp) : doneN ds ≤ ds.length ∧ doneN ds ≤ 30 := by unfold doneN; omega
/-- skylightref06.Made, where only so much is told of it as a merge asks. -/
theorem gmade_any (k : Int) (hk : (Lit.int IntKind.i64 k).wf = true) (ds : List Sp) (w : World) (Ad : Option Addr) (nd cd : Nat) (hD : Deeds w Ad nd cd ds) :
    Calls Try.prog 24 #[.int .i64 k, .slice Ad nd cd] w fun e w' => ∃ A c, e = .returned (hv (kOf k) 0 (.slice A (play (kOf k) ds (doneN ds)).2.length c)) ∧ Levs w' w'.heap.size (.slice A (play (kOf k) ds (doneN ds)).2.length c) (play (kOf k) ds (doneN ds)).2 ∧ Below w.heap.size w w' := by
  obtain ⟨b0, b1⟩ := bounds_i64 hk
  exact rmade_any k b0 (by omega) ds w Ad nd cd hD
/-- A row of histograms of the call's own, that were made. -/
structure Row (T : TypeId) (base : Nat) (v : Value) (xs : List Hx) (W : World) : Prop where
  own : OwnH T W base v xs
  levs : ∀ x ∈ xs, Levs W W.heap.size (.slice x.A x.ls.length x.c) x.ls
  good : ∀ x ∈ xs, Lh.Good x.m
theorem Row.nil (T : TypeId) (base : Nat) (W : World) : Row T base (.slice none 0 0) [] W := ⟨World.ownsRow_nil _ _ _ _, by simp, by simp⟩
theorem Row.grow {T : TypeId} {base : Nat} {v : Value} {xs : List Hx} {W W' : World} (h : Row T base v xs W) (hb : Below W.heap.size W W') : Row T base v xs W' := ⟨own_below h.own hb, fun x hx => (h.levs x hx).grow hb, h.good⟩
theorem Row.hs {T : TypeId} {base : Nat} {A : Option Addr} {c : Nat} {xs : List Hx} {W : World} (h : Row T base (.slice A xs.length c) xs W) : Hs W W.heap.size (.slice A xs.length c) xs := ⟨Lies.of_own h.own, h.levs⟩
/-- Another block is written, of another type than levels and rows. -/
theorem Row.off {T T' : TypeId} {base : Nat} {v : Value} {xs : List Hx} {W W' : World} {r : Nat} (h : Row T base v xs W) (hg : W.grownBy W' (some r)) (ht : Ty W T' r) (n1 : T' ≠ 65) (n2 : T' ≠ 73) (hr : v.ownBlock ≠ some r) : Row T base v xs W' :=
  ⟨World.ownsRow.kept h.own hg (.inr hr), fun x hx => (h.levs x hx).other hg fun b e => by
    cases e
    exact ⟨fun h => Ty.ne ht h n1 rfl, fun h => Ty.ne ht h n2 rfl⟩, h.good⟩
/-- One more is appended: behind the literal, and the append. -/
theorem Row.snoc {T : TypeId} {base : Nat} {v v' : Value} {xs : List Hx} {W W1 W2 : World} {x : Hx} (h : Row T base v xs W) (hb : Below W.heap.size W W1) (ho : OwnH T W2 base v' (xs ++ [x])) (hg : W1.grownBy W2 v.ownBlock) (hT : T ≠ 65) (hT2 : T ≠ 73) (hx : Levs W W.heap.size (.slice x.A x.ls.length x.c) x.ls) (hgx : Lh.Good x.m) : Row T base v' (xs ++ [x]) W2 := by
  have hty : ∀ b, v.ownBlock = some b → Ty W1 T b := by
    intro b hb'
    have h1 := own_below h.own hb
    rcases h1.2 with ⟨e, _⟩ | ⟨g, cap, cur, e, _, hgb, _⟩
    · rw [e] at hb'; cases hb'
    · rw [e] at hb'
      injection hb' with hb'
      subst hb'
      exact ⟨_, _, hgb⟩
  have key : ∀ y : Hx, Levs W W.heap.size (.slice y.A y.ls.length y.c) y.ls → Levs W2 W2.heap.size (.slice y.A y.ls.length y.c) y.ls := fun y hy => (hy.grow hb).other hg fun b e => by
    have ht := hty b e
    exact ⟨fun h => Ty.ne ht h hT rfl, fun h => Ty.ne ht h hT2 rfl⟩
  refine ⟨ho, fun y hy => ?_, fun y hy => ?_⟩
  · rcases List.mem_append.1 hy with hy | hy
    · exact key y (h.levs y hy)
    · rw [List.mem_singleton.1 hy]
      exact key x hx
  · rcases List.mem_append.1 hy with hy | hy
    · exact h.good y hy
    · rw [List.mem_singleton.1 hy]
      exact hgx

end Go.Proofs.Ytmdknedngiggdaa
end
section
/- Plain mathematics: an event by itself is as a histogram of its weight. -/
namespace Go.Proofs.Lh
open Go.Proofs.Lm (Sp)
theorem mergeL_units (k : Nat) {a b : List Sp} (h : unitsOf a = unitsOf b) : mergeL k a = mergeL k b := by unfold mergeL; rw [h]
theorem units_one (k : Nat) (t n : Nat) : unitsOf (lumpsOf 0 (addW k [] t n)) = List.replicate n t := by
  have hr : Rep 0 (addW k [] t n) (List.replicate n t) := by
    have := rep_histOf k ([] ++ List.replicate n t)
    rw [← histOf_add, histOf_nil, List.nil_append] at this
    exact this
  have hl : (unitsOf (lumpsOf 0 (addW k [] t n))).length = n := by
    rw [lumps_len, tot_eq]
    have e : addW k [] t n = histOf k ([] ++ List.replicate n t) := by rw [← histOf_add, histOf_nil]
    rw [e, tot_histOf]
    simp
  rw [List.eq_replicate_iff]
  refine ⟨hl, fun u hu => ?_⟩
  obtain ⟨x, hx, rfl⟩ := units_mem hu
  obtain ⟨b, hb, e⟩ := lumps_mem hx
  rw [e]
  exact List.eq_of_mem_replicate (rep_mem hr b hb)
theorem tot_one (k t n : Nat) : tot (addW k [] t n) = n := by
  have e : addW k [] t n = histOf k ([] ++ List.replicate n t) := by rw [← histOf_add, histOf_nil]
  rw [e, tot_histOf]
  simp
theorem code_one {t n : Nat} (hn : 1 ≤ n) (ht : t ≤ 9223372036854775807) (hs : n ≤ 4503599627370496) : code [] t n = 0 := by
  have e1 : tot ([] : Lv) = 0 := rfl
  have e2 : (lastOf ([] : Lv)).getD 0 = 0 := rfl
  unfold code
  rw [if_neg (by omega), if_neg (by rw [e2]; omega), if_neg (by rw [e1]; omega)]
theorem made_one {k t n : Nat} (h2 : 2 ≤ k) (h1 : k ≤ 1024) (hn : 1 ≤ n) (ht : t ≤ 9223372036854775807) (hs : n ≤ 4503599627370496) : Good ((k : Int), 0, addW k [] t n) := by
  refine ⟨by show (0 : Int) ≤ (k : Int); omega, by rw [Int.toNat_natCast]; exact (Made.nil h2 h1).add (code_one hn ht hs), fun b hb => ?_, by show (0 : Int) ≤ 0; omega, by show (0 : Int) ≤ 4; omega⟩
  have hr : Rep 0 (addW k [] t n) (List.replicate n t) := by
    have := rep_histOf k ([] ++ List.replicate n t)
    rw [← histOf_add, histOf_nil, List.nil_append] at this
    exact this
  have := List.eq_of_mem_replicate (rep_mem hr b hb)
  omega
/-- An event by itself. -/
theorem with_one {e : Ev} {ms : List Hm} {k : Nat} (hb : badN [e] ms = 0) (hk : kOne ms = (k : Int)) :
    badN [] (ms ++ [((k : Int), 0, addW k [] e.1 e.2.2)]) = 0 ∧ outM [] (ms ++ [((k : Int), 0, addW k [] e.1 e.2.2)]) = outM [e] ms ∧ 1 ≤ e.2.2 ∧ e.1 ≤ 9223372036854775807 ∧ e.2.2 ≤ 4503599627370496 := by
  obtain ⟨h0, h1, h2, h3, h4, h5⟩ := badN_zero hb
  have hn : 1 ≤ e.2.2 := by
    unfold lightB at h1
    simp at h1
    omega
  have ht : e.1 ≤ 9223372036854775807 := by
    unfold earlyB at h4
    simp at h4
    exact h4
  have hE : totE [e] = e.2.2 := by simp [totE]
  have hM : totM (ms ++ [((k : Int), 0, addW k [] e.1 e.2.2)]) = totM ms + e.2.2 := by
    unfold totM
    rw [List.map_append, List.sum_append]
    simp [tot_one]
  have hK : kOne (ms ++ [((k : Int), 0, addW k [] e.1 e.2.2)]) = kOne ms := by
    cases ms with
    | nil => simp at h0
    | cons m ms => rfl
  have hG : gmax (ms ++ [((k : Int), 0, addW k [] e.1 e.2.2)]) = gmax ms := by
    have h0 := gmax_nonneg ms
    unfold gmax at *
    rw [List.foldl_append, List.foldl_cons, List.foldl_nil]
    show max _ (0 : Int) = _
    omega
  have hA : alikeB (ms ++ [((k : Int), 0, addW k [] e.1 e.2.2)]) = true := by
    unfold alikeB at *
    rw [List.all_append, hK, h2]
    simp [hk]
  have hbb : badN [] (ms ++ [((k : Int), 0, addW k [] e.1 e.2.2)]) = 0 := by
    unfold badN
    rw [hA, hG, hM, show lightB [] = true from rfl, show earlyB [] = true from rfl, show totE [] = 0 from rfl]
    rw [if_neg (by simp), if_neg (by simp), if_neg (by omega), if_neg (by simp), if_neg (by omega)]
  refine ⟨hbb, ?_, hn, ht, by omega⟩
  unfold outM
  rw [if_pos hbb, if_pos hb, hK, hG]
  congr 2
  refine mergeL_units _ ?_
  unfold lumpAll
  rw [List.map_nil, List.append_nil, List.flatMap_append, units_app, units_app]
  congr 1
  simp only [List.flatMap_cons, List.flatMap_nil, List.append_nil, List.map_cons, List.map_nil]
  rw [units_one]
  simp [unitsOf, lumpE]
end Go.Proofs.Lh
namespace Go.Proofs.Ytmdknedngiggdaa
open Go.RowKit Go.Shelf Go.Proofs.Rw Go.Proofs.Lh Go.Proofs.Rf
/-- What a row's own block holds. -/
theorem Row.ty {T : TypeId} {base : Nat} {v : Value} {xs : List Hx} {W : World} (h : Row T base v xs W) : ∀ b, v.ownBlock = some b → Ty W T b := by
  intro b hb'
  rcases h.own.2 with ⟨e, _⟩ | ⟨g, cap, cur, e, _, hgb, _⟩
  · rw [e] at hb'; cases hb'
  · rw [e] at hb'
    injection hb' with hb'
    subst hb'
    exact ⟨_, _, hgb⟩
/-- A block of another type is written, or none. -/
theorem Row.other {T T' : TypeId} {base : Nat} {v : Value} {xs : List Hx} {W W' : World} {row : Option Nat} (h : Row T base v xs W) (hg : W.grownBy W' row) (ht : ∀ b, row = some b → Ty W T' b) (n0 : T' ≠ T) (n1 : T' ≠ 65) (n2 : T' ≠ 73) : Row T base v xs W' := by
  refine ⟨World.ownsRow.kept h.own hg ?_, fun x hx => (h.levs x hx).other hg fun b e => ⟨fun k => Ty.ne (ht b e) k n1 rfl, fun k => Ty.ne (ht b e) k n2 rfl⟩, h.good⟩
  cases hv : v.ownBlock with
  | none => exact .inl rfl
  | some b =>
    refine .inr fun e => ?_
    exact Ty.ne (ht b e.symm) (h.ty b hv) n0 rfl

end Go.Proofs.Ytmdknedngiggdaa
end
section
/- Plain mathematics: histograms merged in pairs, and in whatever turn. -/
namespace Go.Proofs.Lh
open Go.Proofs.Lm (Sp)

/-- A histogram of K k, to whose parts so much came; its total. -/
structure Stt (k : Nat) (m : Hm) (N : (Nat → Bool) → Nat) (T : Nat) : Prop where
  kk : m.1 = (k : Int)
  good : Good m
  stands : Stands k m.2.1.toNat m.2.2 N
  total : tot m.2.2 = T
theorem Stands.congr {k g : Nat} {L : Lv} {N N' : (Nat → Bool) → Nat} (h : Stands k g L N) (e : ∀ p, N p = N' p) : Stands k g L N' := by
  have : N = N' := funext e
  rw [← this]
  exact h
theorem Stt.play {k : Nat} (h2 : 2 ≤ k) (h1 : k ≤ 1024) (ds : List Sp) (j : Nat) (hj : j ≤ ds.length) (hj2 : j ≤ 1000000) : Stt k ((k : Int), 0, (Lh.play k ds j).2) (fun p => exactN k p ds j) (tot (Lh.play k ds j).2) :=
  ⟨rfl, good_play k h2 h1 ds j hj hj2 0 (by omega) (by omega), play_stands h2 h1 ds j hj, rfl⟩
theorem alike_of {k : Nat} {ms : List Hm} (h : ∀ m ∈ ms, m.1 = (k : Int)) : alikeB ms = true := by
  unfold alikeB
  rw [List.all_eq_true]
  intro m hm
  have h0 : kOne ms = (k : Int) := by
    cases ms with
    | nil => cases hm
    | cons x xs => exact h x List.mem_cons_self
  rw [h m hm, h0]
  simp
theorem bad_none {k : Nat} {ms : List Hm} (h0 : 0 < ms.length) (h : ∀ m ∈ ms, m.1 = (k : Int)) (hg : gmax ms < 4) (ht : totM ms ≤ 4503599627370496) : badN [] ms = 0 := by
  have e : totE [] = 0 := rfl
  unfold badN
  rw [alike_of h, show lightB [] = true from rfl, show earlyB [] = true from rfl, e, if_neg (fun h => h.elim (fun h => by omega) (fun h => by cases h)), if_neg (by simp), if_neg (by omega), if_neg (by simp), if_neg (by omega)]
/-- A merge of some. -/
theorem Stt.merge {k g : Nat} {ms : List Hm} {Ns : List ((Nat → Bool) → Nat)} (h0 : 0 < ms.length) (hl : ms.length = Ns.length) (hms : ∀ i (h : i < ms.length), Stt k ms[i] (Ns[i]'(by omega)) (tot ms[i].2.2)) (hg : gmax ms = (g : Int)) (hg4 : g < 4) (ht : totM ms ≤ 4503599627370496) :
    badN [] ms = 0 ∧ (outM [] ms).2.1 = (g : Int) + 1 ∧ Stt k (outM [] ms) (fun p => (Ns.map fun N => N p).sum) (totM ms) := by
  have hk : ∀ m ∈ ms, m.1 = (k : Int) := by
    intro m hm
    obtain ⟨i, hi, rfl⟩ := List.getElem_of_mem hm
    exact (hms i hi).kk
  have hgd : ∀ m ∈ ms, Good m := by
    intro m hm
    obtain ⟨i, hi, rfl⟩ := List.getElem_of_mem hm
    exact (hms i hi).good
  have hb := bad_none h0 hk (by omega) ht
  have hk1 : kOne ms = (k : Int) := by
    cases ms with
    | nil => simp at h0
    | cons x xs => exact hk x List.mem_cons_self
  have ho : outM [] ms = ((k : Int), (g : Int) + 1, mergeL k (lumpAll [] ms)) := by
    unfold outM
    rw [if_pos hb, hk1, hg, Int.toNat_natCast]
  have hgood := merge_made (evs := []) hb hgd
  rw [hk1, hg, Int.toNat_natCast] at hgood
  obtain ⟨all, hp, hs⟩ := sorted_ex (lumpAll [] ms)
  have hmm : (2 ≤ k ∧ k ≤ 1024) := by
    have := (hms 0 h0).stands.made
    exact ⟨this.k2, this.k1⟩
  have hst := merge_stands (k := k) (g := g) hmm.1 hmm.2 (Ps := (ms.zip Ns).map fun x => (x.1.2.2, x.2)) (by
    intro P hP
    obtain ⟨x, hx, rfl⟩ := List.mem_map.1 hP
    obtain ⟨i, hi, rfl⟩ := List.getElem_of_mem hx
    have hi' : i < ms.length := by simp at hi; omega
    rw [List.getElem_zip]
    refine (hms i hi').stands.mono ?_
    have h1 := gmax_mem (ms := ms) (List.getElem_mem hi')
    have h2 := (hms i hi').good.gen0
    show (ms[i].2.1).toNat ≤ g
    omega) (by
    have e : (((ms.zip Ns).map fun x => (x.1.2.2, x.2)).map fun P : Lv × ((Nat → Bool) → Nat) => tot P.1) = ms.map fun m => tot m.2.2 := by
      rw [List.map_map]
      have : (ms.zip Ns).map Prod.fst = ms := List.map_fst_zip (by omega)
      conv => rhs; rw [← this]
      rw [List.map_map]
      rfl
    rw [e]
    exact ht) (all := all) (by
    refine hp.trans ?_
    have e : (((ms.zip Ns).map fun x => (x.1.2.2, x.2)).flatMap fun P : Lv × ((Nat → Bool) → Nat) => lumpsOf 0 P.1) = ms.flatMap fun m => lumpsOf 0 m.2.2 := by
      rw [List.flatMap_map]
      have : (ms.zip Ns).map Prod.fst = ms := List.map_fst_zip (by omega)
      conv => rhs; rw [← this]
      rw [List.flatMap_map]
    rw [e]
    unfold lumpAll
    rw [List.map_nil, List.append_nil]) hs
  rw [merge_fold k hp hs] at hst
  refine ⟨hb, by rw [ho], ?_⟩
  rw [ho]
  refine ⟨rfl, hgood, ?_, ?_⟩
  · show Stands k ((g : Int) + 1).toNat _ _
    rw [show ((g : Int) + 1).toNat = g + 1 by omega]
    refine hst.1.congr fun p => ?_
    have : (ms.zip Ns).map Prod.snd = Ns := List.map_snd_zip (by omega)
    conv => rhs; rw [← this]
    rw [List.map_map, List.map_map]
    rfl
  · show tot (mergeL k _) = _
    rw [merge_tot]
    show totM ms + totE [] = totM ms
    rfl
theorem mergeL_perm (k : Nat) {a b : List Sp} (h : a.Perm b) : mergeL k a = mergeL k b := by
  obtain ⟨all, hp, hs⟩ := sorted_ex a
  rw [← merge_fold k hp hs, ← merge_fold k (hp.trans h) hs]
end Go.Proofs.Lh
end
