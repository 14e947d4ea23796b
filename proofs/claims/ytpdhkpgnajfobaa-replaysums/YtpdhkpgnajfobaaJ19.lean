/- Plain mathematics: histograms merged in pairs, and in whatever turn. · Plain mathematics of trees: four histograms merged in pairs, and again. · Trees: Light, Times. · Numbers by digits of 2^32, the least one first: times a number, and which of two is the greater one. -/
import Derived.Test.YtpdhkpgnajfobaaJ18
import Derived.Test.YtpdhkpgnajfobaaJ01
section
/- Plain mathematics: histograms merged in pairs, and in whatever turn. -/
namespace Go.Proofs.Lh
open Go.Proofs.Lm (Sp)

/-- A histogram of K k, to whose parts so much came; its total. -/
structure St (k : Nat) (m : Hm) (N : (Nat → Bool) → Nat) (T : Nat) : Prop where
  kk : m.1 = (k : Int)
  good : Good m
  stands : Stands k m.2.1.toNat m.2.2 N
  total : tot m.2.2 = T
theorem Stands.congr {k g : Nat} {L : Lv} {N N' : (Nat → Bool) → Nat} (h : Stands k g L N) (e : ∀ p, N p = N' p) : Stands k g L N' := by
  have : N = N' := funext e
  rw [← this]
  exact h
theorem St.play {k : Nat} (h2 : 2 ≤ k) (h1 : k ≤ 1024) (ds : List Sp) (j : Nat) (hj : j ≤ ds.length) (hj2 : j ≤ 1000000) : St k ((k : Int), 0, (Lh.play k ds j).2) (fun p => exactN k p ds j) (tot (Lh.play k ds j).2) :=
  ⟨rfl, good_play k h2 h1 ds j hj hj2 0 (by omega) (by omega), play_stands h2 h1 ds j hj, rfl⟩
theorem alike_of {k : Nat} {ms : List Hm} (h : ∀ m ∈ ms, m.1 = (k : Int)) : alikeB ms = true := by
  unfold alikeB
  rw [List.all_eq_true]
  intro m hm
  have h0 : kOne ms = (k : Int) := by
    cases ms with
    | nil => cases hm
    | cons x xs => exact h x List.mem_cons_self
  rw [h m hm, h0]
  simp
theorem bad_none {k : Nat} {ms : List Hm} (h0 : 0 < ms.length) (h : ∀ m ∈ ms, m.1 = (k : Int)) (hg : gmax ms < 4) (ht : totM ms ≤ 4503599627370496) : badN [] ms = 0 := by
  have e : totE [] = 0 := rfl
  unfold badN
  rw [alike_of h, show lightB [] = true from rfl, show earlyB [] = true from rfl, e, if_neg (fun h => h.elim (fun h => by omega) (fun h => by cases h)), if_neg (by simp), if_neg (by omega), if_neg (by simp), if_neg (by omega)]
/-- A merge of some. -/
theorem St.merge {k g : Nat} {ms : List Hm} {Ns : List ((Nat → Bool) → Nat)} (h0 : 0 < ms.length) (hl : ms.length = Ns.length) (hms : ∀ i (h : i < ms.length), St k ms[i] (Ns[i]'(by omega)) (tot ms[i].2.2)) (hg : gmax ms = (g : Int)) (hg4 : g < 4) (ht : totM ms ≤ 4503599627370496) :
    badN [] ms = 0 ∧ (outM [] ms).2.1 = (g : Int) + 1 ∧ St k (outM [] ms) (fun p => (Ns.map fun N => N p).sum) (totM ms) := by
  have hk : ∀ m ∈ ms, m.1 = (k : Int) := by
    intro m hm
    obtain ⟨i, hi, rfl⟩ := List.getElem_of_mem hm
    exact (hms i hi).kk
  have hgd : ∀ m ∈ ms, Good m := by
    intro m hm
    obtain ⟨i, hi, rfl⟩ := List.getElem_of_mem hm
    exact (hms i hi).good
  have hb := bad_none h0 hk (by omega) ht
  have hk1 : kOne ms = (k : Int) := by
    cases ms with
    | nil => simp at h0
    | cons x xs => exact hk x List.mem_cons_self
  have ho : outM [] ms = ((k : Int), (g : Int) + 1, mergeL k (lumpAll [] ms)) := by
    unfold outM
    rw [if_pos hb, hk1, hg, Int.toNat_natCast]
  have hgood := merge_made (evs := []) hb hgd
  rw [hk1, hg, Int.toNat_natCast] at hgood
  obtain ⟨all, hp, hs⟩ := sorted_ex (lumpAll [] ms)
  have hmm : (2 ≤ k ∧ k ≤ 1024) := by
    have := (hms 0 h0).stands.made
    exact ⟨this.k2, this.k1⟩
  have hst := merge_stands (k := k) (g := g) hmm.1 hmm.2 (Ps := (ms.zip Ns).map fun x => (x.1.2.2, x.2)) (by
    intro P hP
    obtain ⟨x, hx, rfl⟩ := List.mem_map.1 hP
    obtain ⟨i, hi, rfl⟩ := List.getElem_of_mem hx
    have hi' : i < ms.length := by simp at hi; omega
    rw [List.getElem_zip]
    refine (hms i hi').stands.mono ?_
    have h1 := gmax_mem (ms := ms) (List.getElem_mem hi')
    have h2 := (hms i hi').good.gen0
    show (ms[i].2.1).toNat ≤ g
    omega) (by
    have e : (((ms.zip Ns).map fun x => (x.1.2.2, x.2)).map fun P : Lv × ((Nat → Bool) → Nat) => tot P.1) = ms.map fun m => tot m.2.2 := by
      rw [List.map_map]
      have : (ms.zip Ns).map Prod.fst = ms := List.map_fst_zip (by omega)
      conv => rhs; rw [← this]
      rw [List.map_map]
      rfl
    rw [e]
    exact ht) (all := all) (by
    refine hp.trans ?_
    have e : (((ms.zip Ns).map fun x => (x.1.2.2, x.2)).flatMap fun P : Lv × ((Nat → Bool) → Nat) => lumpsOf 0 P.1) = ms.flatMap fun m => lumpsOf 0 m.2.2 := by
      rw [List.flatMap_map]
      have : (ms.zip Ns).map Prod.fst = ms := List.map_fst_zip (by omega)
      conv => rhs; rw [← this]
      rw [List.flatMap_map]
    rw [e]
    unfold lumpAll
    rw [List.map_nil, List.append_nil]) hs
  rw [merge_fold k hp hs] at hst
  refine ⟨hb, by rw [ho], ?_⟩
  rw [ho]
  refine ⟨rfl, hgood, ?_, ?_⟩
  · show Stands k ((g : Int) + 1).toNat _ _
    rw [show ((g : Int) + 1).toNat = g + 1 by omega]
    refine hst.1.congr fun p => ?_
    have : (ms.zip Ns).map Prod.snd = Ns := List.map_snd_zip (by omega)
    conv => rhs; rw [← this]
    rw [List.map_map, List.map_map]
    rfl
  · show tot (mergeL k _) = _
    rw [merge_tot]
    show totM ms + totE [] = totM ms
    rfl
theorem mergeL_perm (k : Nat) {a b : List Sp} (h : a.Perm b) : mergeL k a = mergeL k b := by
  obtain ⟨all, hp, hs⟩ := sorted_ex a
  rw [← merge_fold k hp hs, ← merge_fold k (hp.trans h) hs]
end Go.Proofs.Lh
end
section
/- Plain mathematics of trees: four histograms merged in pairs, and again. -/
namespace Go.Proofs.Lh
open Go.Proofs.Lm (Sp)

theorem play_tot {k : Nat} (h2 : 2 ≤ k) (h1 : k ≤ 1024) (ds : List Sp) (B : Nat) (hw : ∀ x ∈ ds, x.2 ≤ B) : ∀ j, j ≤ ds.length → tot (play k ds j).2 ≤ j * B
  | 0, _ => by rw [play_zero]; simp [tot]
  | j + 1, h => by
    have ih := play_tot h2 h1 ds B hw j (by omega)
    have hx := hw (ds[j]'(by omega)) (List.getElem_mem _)
    rw [play_succ k ds j (by omega), step_levs, Nat.add_mul]
    split
    · rw [addW_tot]
      omega
    · omega
def timesN (d i : Nat) : Nat := if d = 0 then (if i = 0 then 1 else 0) else if d = 1 then (if i < 2 then 1 else 0) else if i = 0 then d - 1 else 1
def hM (k : Nat) (L : Nat → Lv) (i : Nat) : Hm := ((k : Int), 0, L i)
def twoM (k : Nat) (L : Nat → Lv) : Hm := outM [] [outM [] [hM k L 0, hM k L 1], outM [] [hM k L 2, hM k L 3]]
def treeM (k : Nat) (L : Nat → Lv) : Nat → Hm
  | 0 => hM k L 0
  | 1 => outM [] [hM k L 0, hM k L 1]
  | 2 => twoM k L
  | d + 3 => outM [] [treeM k L (d + 2), hM k L 0]
def sumT (d : Nat) (f : Nat → Nat) : Nat := timesN d 0 * f 0 + timesN d 1 * f 1 + timesN d 2 * f 2 + timesN d 3 * f 3
theorem gmax_two (a b : Hm) (ha : 0 ≤ a.2.1) : gmax [a, b] = max a.2.1 b.2.1 := by
  unfold gmax
  rw [List.foldl_cons, List.foldl_cons, List.foldl_nil]
  omega
theorem St.pair {k g : Nat} {a b : Hm} {Na Nb : (Nat → Bool) → Nat} {Ta Tb : Nat} (ha : St k a Na Ta) (hb : St k b Nb Tb) (hg : max a.2.1 b.2.1 = (g : Int)) (hg4 : g < 4) (ht : Ta + Tb ≤ 4503599627370496) :
    badN [] [a, b] = 0 ∧ (outM [] [a, b]).2.1 = (g : Int) + 1 ∧ St k (outM [] [a, b]) (fun p => Na p + Nb p) (Ta + Tb) := by
  have htt : totM [a, b] = Ta + Tb := by
    unfold totM
    simp [ha.total, hb.total]
  obtain ⟨h1, h2, h3⟩ := St.merge (k := k) (g := g) (ms := [a, b]) (Ns := [Na, Nb]) (by simp) rfl (by
    intro i hi
    match i, hi with
    | 0, _ => exact ⟨ha.kk, ha.good, ha.stands, rfl⟩
    | 1, _ => exact ⟨hb.kk, hb.good, hb.stands, rfl⟩) (by rw [gmax_two a b ha.good.gen0]; exact hg) hg4 (by rw [htt]; exact ht)
  rw [htt] at h3
  refine ⟨h1, h2, h3.kk, h3.good, h3.stands.congr fun p => ?_, h3.total⟩
  simp
/-- What stands in a tree. -/
theorem tree_st {k : Nat} {L : Nat → Lv} {N : Nat → (Nat → Bool) → Nat} (hL : ∀ i, i < 4 → St k (hM k L i) (N i) (tot (L i))) (hT : ∀ i, i < 4 → tot (L i) ≤ 35184372088832) :
    (outM [] [hM k L 0, hM k L 1]).2.1 = 1 ∧ (outM [] [hM k L 2, hM k L 3]).2.1 = 1 ∧ Good (outM [] [hM k L 0, hM k L 1]) ∧ Good (outM [] [hM k L 2, hM k L 3]) ∧
    ∀ d, d ≤ 4 → (treeM k L d).2.1 = (d : Int) ∧ St k (treeM k L d) (fun p => sumT d fun i => N i p) (sumT d fun i => tot (L i)) := by
  have t0 := hT 0 (by omega)
  have t1 := hT 1 (by omega)
  have t2 := hT 2 (by omega)
  have t3 := hT 3 (by omega)
  have h0 := hL 0 (by omega)
  have h1 := hL 1 (by omega)
  have h2 := hL 2 (by omega)
  have h3 := hL 3 (by omega)
  have g0 : ∀ i, (hM k L i).2.1 = 0 := fun i => rfl
  obtain ⟨-, e01, s01⟩ := h0.pair h1 (g := 0) (by rw [g0, g0]; rfl) (by omega) (by omega)
  obtain ⟨-, e23, s23⟩ := h2.pair h3 (g := 0) (by rw [g0, g0]; rfl) (by omega) (by omega)
  obtain ⟨-, e2, s2⟩ := s01.pair s23 (g := 1) (by rw [e01, e23]; rfl) (by omega) (by omega)
  obtain ⟨-, e3, s3⟩ := s2.pair h0 (g := 2) (by rw [e2, g0]; rfl) (by omega) (by omega)
  obtain ⟨-, e4, s4⟩ := s3.pair h0 (g := 3) (by rw [e3, g0]; rfl) (by omega) (by omega)
  refine ⟨e01, e23, s01.good, s23.good, fun d hd => ?_⟩
  match d, hd with
  | 0, _ => exact ⟨rfl, h0.kk, h0.good, h0.stands.congr fun p => by simp [sumT, timesN], by rw [show treeM k L 0 = hM k L 0 from rfl, h0.total]; simp [sumT, timesN]⟩
  | 1, _ => exact ⟨e01, s01.kk, s01.good, s01.stands.congr fun p => by simp [sumT, timesN], by rw [show treeM k L 1 = outM [] [hM k L 0, hM k L 1] from rfl, s01.total]; simp [sumT, timesN]⟩
  | 2, _ => exact ⟨e2, s2.kk, s2.good, s2.stands.congr fun p => by simp [sumT, timesN]; omega, by rw [show treeM k L 2 = twoM k L from rfl]; unfold twoM; rw [s2.total]; simp [sumT, timesN]; omega⟩
  | 3, _ => exact ⟨e3, s3.kk, s3.good, s3.stands.congr fun p => by simp [sumT, timesN]; omega, by rw [show treeM k L 3 = outM [] [twoM k L, hM k L 0] from rfl]; unfold twoM; rw [s3.total]; simp [sumT, timesN]; omega⟩
  | 4, _ => exact ⟨e4, s4.kk, s4.good, s4.stands.congr fun p => by simp [sumT, timesN]; omega, by rw [show treeM k L 4 = outM [] [outM [] [twoM k L, hM k L 0], hM k L 0] from rfl]; unfold twoM; rw [s4.total]; simp [sumT, timesN]; omega⟩
end Go.Proofs.Lh
end
section
/- Trees: Light, Times. -/
namespace Go.Proofs.Ytpdhkpgnajfobaa
open Go.RowKit Go.Shelf Go.Proofs.Rw Go.Proofs.Lh Go.Proofs.Rf

/-- A tree that came in. -/
structure Tr where
  K : Int
  A : Nat → Option Addr
  c : Nat → Nat
  ds : Nat → List Sp
  deep : Nat
abbrev Tr.sl (t : Tr) (i : Nat) : Value := .slice (t.A i) (t.ds i).length (t.c i)
abbrev Tr.cells (t : Tr) : Array Value := #[.int .i64 t.K, t.sl 0, t.sl 1, t.sl 2, t.sl 3, .int .u8 (t.deep : Int)]
structure TrOk (t : Tr) (w : World) : Prop where
  wf : (Lit.int IntKind.i64 t.K).wf = true
  deep : t.deep < 256
  deeds : ∀ i, i < 4 → Deeds w (t.A i) (t.ds i).length (t.c i) (t.ds i)
theorem TrOk.grow {t : Tr} {w w' : World} (h : TrOk t w) (hb : Below w.heap.size w w') : TrOk t w' := ⟨h.wf, h.deep, fun i hi => (h.deeds i hi).grow hb⟩
theorem tr_box {W : World} {b : Nat} {t : Tr} {T : TypeId} {fr : Nat × Nat} (h : W.heap[b]? = some (.cells t.cells T fr)) : W.cell? ⟨b, 0, none⟩ = some (.int .i64 t.K) ∧ (∀ i, i < 4 → W.cell? ⟨b, 1 + i, none⟩ = some (.slice (t.A i) (t.ds i).length (t.c i))) ∧ W.cell? ⟨b, 5, none⟩ = some (.int .u8 (t.deep : Int)) := by
  refine ⟨by simp [World.cell?, h], fun i hi => ?_, by simp [World.cell?, h]⟩
  match i, hi with
  | 0, _ => simp [World.cell?, h]
  | 1, _ => simp [World.cell?, h]
  | 2, _ => simp [World.cell?, h]
  | 3, _ => simp [World.cell?, h]
theorem box4 {W : World} {b : Nat} {x y z u : Value} {t : TypeId} (h : W.heap[b]? = some (.cells #[x, y, z, u] t)) : W.cell? ⟨b, 0, none⟩ = some x ∧ W.cell? ⟨b, 1, none⟩ = some y ∧ W.cell? ⟨b, 2, none⟩ = some z ∧ W.cell? ⟨b, 3, none⟩ = some u := by simp [World.cell?, h]
theorem set4 {W : World} {b : Nat} {x y z u : Value} {T : TypeId} (h : W.heap[b]? = some (.cells #[x, y, z, u] T)) (x' y' z' u' : Value) :
    ((((W.setCell ⟨b, 0, none⟩ x').setCell ⟨b, 1, none⟩ y').setCell ⟨b, 2, none⟩ z').setCell ⟨b, 3, none⟩ u').heap[b]? = some (.cells #[x', y', z', u'] T) := by
  rw [set1 _ (set1 _ (set1 _ (set1 _ h)))]
  rfl
theorem below4 {W : World} {b B : Nat} {w : World} (h : Below B w W) (hb : B ≤ b) (x' y' z' u' : Value) : Below B w ((((W.setCell ⟨b, 0, none⟩ x').setCell ⟨b, 1, none⟩ y').setCell ⟨b, 2, none⟩ z').setCell ⟨b, 3, none⟩ u') :=
  (((h.setCell (p := ⟨b, 0, none⟩) hb _).setCell (p := ⟨b, 1, none⟩) hb _).setCell (p := ⟨b, 2, none⟩) hb _).setCell (p := ⟨b, 3, none⟩) hb _
def LightAt (t : Tr) (i : Nat) : Prop := (t.ds i).length ≤ 20 ∧ ∀ x ∈ t.ds i, x.2 ≤ 1099511627776
def IsLight (t : Tr) : Prop := ∀ i, i < 4 → LightAt t i

def LightP (t : Tr) (w : World) (e : Ending) (w' : World) : Prop := ∃ q : Bool, e = .returned (.bool q) ∧ (q = true → IsLight t) ∧ Below w.heap.size w w'
set_option maxHeartbeats 4000000 in
theorem lightT_any (t : Tr) (w : World) (hok : TrOk t w) : Calls Try.prog 12 #[.agg t.cells] w (LightP t w) := by
  obtain ⟨W0, hW0⟩ : ∃ W, w.alloc (.cells t.cells 38) = W := ⟨_, rfl⟩
  have hB0 : Below w.heap.size w W0 := by rw [← hW0]; exact (Below.refl _ w).alloc (Nat.le_refl _) _
  have p0 : W0.heap[w.heap.size]? = some (.cells t.cells 38) := by rw [← hW0]; exact heap_alloc_new w _
  have hok0 := hok.grow hB0
  obtain ⟨x0, x1, x2⟩ := tr_box p0
  have l0 := lt_of p0
  have HOK := Lib.hid hok0
  have HB0 := Lib.hid hB0
  have X1 := Lib.hid x1
  have HW0 := Lib.hid hW0
  clear hok hok0 hB0 p0 x1 hW0
  go_enter Try.func12, Try.ntmps12
  go_upto_region 1 with (fail)
  rw [HW0.out]
  go_wp2
  go_loop [3] (fun p => ∃ i : Nat, p = .int .i64 (i : Int) ∧ i ≤ 4 ∧ Hid (∀ i', i' < i → LightAt t i')) (fun p => 4 - (intOf p).toNat)
  case atStart => exact ⟨0, rfl, by omega, Lib.hid fun i' h => absurd h (by omega)⟩
  case round =>
    obtain ⟨i, rfl, hi, HA⟩ := hrel
    by_cases hlt : i < 4
    · have q1 := X1.out i hlt
      have hd := HOK.out.deeds i hlt
      have hwl : (t.ds i).length ≤ maxLen := by
        obtain ⟨A', c', hv, h1, h2, _⟩ := hd.2.1
        omega
      unfold maxLen at hwl
      obtain ⟨n, hn⟩ : ∃ n, (t.ds i).length = n := ⟨_, rfl⟩
      rw [hn] at q1 hwl
      obtain ⟨A, hA⟩ : ∃ A, t.A i = A := ⟨_, rfl⟩
      obtain ⟨c, hc⟩ : ∃ c, t.c i = c := ⟨_, rfl⟩
      have hlies := hd.2.1
      rw [hn] at hlies
      rw [hA, hc] at q1 hlies
      have HL := Lib.hid hlies
      have HN := Lib.hid hn
      clear hd hlies hA hc hn
      by_cases h20 : n ≤ 20
      · go_wp2
        go_loop [4] (fun p => ∃ k : Nat, p = .int .i64 (k : Int) ∧ k ≤ n ∧ Hid (∀ k' (h : k' < (t.ds i).length), k' < k → (t.ds i)[k'].2 ≤ 1099511627776)) (fun p => n - (intOf p).toNat)
        case atStart => exact ⟨0, rfl, Nat.zero_le _, Lib.hid fun k' _ h => absurd h (by omega)⟩
        case round =>
          obtain ⟨k, rfl, hk, HK⟩ := hrel
          by_cases hkt : k < n
          · have hkl : k < (t.ds i).length := by rw [HN.out]; exact hkt
            obtain ⟨b2, off2, rfl, hb2, -, hc2⟩ := sp_at HL.out (by omega)
            obtain ⟨e0, e1⟩ := hc2 k hkl
            obtain ⟨x, hx⟩ : ∃ x, (t.ds i)[k].2 = x := ⟨_, rfl⟩
            rw [hx] at e1
            have HX := Lib.hid hx
            clear hc2 hx
            by_cases hbig : 1099511627776 < x
            · go_wp2
              go_ret
              exact ⟨false, rfl, (fun h => by cases h), HB0.out⟩
            · have hle : x ≤ 1099511627776 := by omega
              go_wp2
              refine ⟨⟨k + 1, by go_num, hkt, Lib.hid fun k' hk' hkk => ?_⟩, by simp [intOf]; omega⟩
              rcases Nat.lt_or_ge k' k with h | h
              · exact HK.out k' hk' h
              · have e : k' = k := by omega
                subst e
                rw [HX.out]
                exact hle
          · have e : k = n := by omega
            have hall : LightAt t i := by
              refine ⟨by rw [HN.out]; exact h20, fun x hx => ?_⟩
              obtain ⟨k', hk', rfl⟩ := List.getElem_of_mem hx
              exact HK.out k' hk' (by have := HN.out; omega)
            have HALL := Lib.hid hall
            subst e
            clear hall
            go_wp2
            refine ⟨⟨i + 1, by go_num, hlt, Lib.hid fun i' h => ?_⟩, by simp [intOf]; omega⟩
            rcases Nat.lt_or_ge i' i with h' | h'
            · exact HA.out i' h'
            · have e : i' = i := by omega
              rw [e]
              exact HALL.out
      · have h21 : (20 : Int) < (n : Int) := by omega
        go_wp2
        go_ret
        exact ⟨false, rfl, (fun h => by cases h), HB0.out⟩
    · have e : i = 4 := by omega
      subst e
      go_wp2
      go_ret
      exact ⟨true, rfl, fun _ => HA.out, HB0.out⟩

set_option maxHeartbeats 2000000 in
theorem times_tree (t : Tr) (w : World) (hok : TrOk t w) : Calls Try.prog 38 #[.agg t.cells] w fun e w' => e = .returned (.agg #[.int .u64 (timesN (t.deep % 5) 0 : Nat), .int .u64 (timesN (t.deep % 5) 1 : Nat), .int .u64 (timesN (t.deep % 5) 2 : Nat), .int .u64 (timesN (t.deep % 5) 3 : Nat)]) ∧ Below w.heap.size w w' := by
  have hd := hok.deep
  obtain ⟨n, hn⟩ : ∃ n, t.deep = n := ⟨_, rfl⟩
  obtain ⟨d, hdd⟩ : ∃ d, n % 5 = d := ⟨_, rfl⟩
  have hd5 : d < 5 := by omega
  have hdi : (n : Int) % 5 = (d : Int) := by omega
  unfold Tr.cells
  rw [hn] at hd ⊢
  rw [hdd]
  have hb2 : Below w.heap.size w ((w.alloc (.cells #[.int .i64 t.K, t.sl 0, t.sl 1, t.sl 2, t.sl 3, .int .u8 (n : Int)] 38)).alloc (.cells #[.int .u64 0, .int .u64 0, .int .u64 0, .int .u64 0] 89)) := ((Below.refl _ w).alloc (Nat.le_refl _) _).alloc (by simp) _
  have HB2 := Lib.hid hb2
  clear hb2 hok hdd hn
  go_enter Try.func38, Try.ntmps38
  go_upto_region 2 with (fail)
  rw [hdi]
  clear hdi
  rcases (by omega : d = 0 ∨ d = 1 ∨ 2 ≤ d) with rfl | rfl | h2
  · go_wp2
    refine bodyPost_ret (v := .agg #[.int .u64 1, .int .u64 0, .int .u64 0, .int .u64 0]) (by simp [results, Try.results38, go_sem]) rfl ⟨rfl, ((Below.refl _ w).alloc (Nat.le_refl _) _).alloc (by simp) _⟩
  · go_wp2
    refine bodyPost_ret (v := .agg #[.int .u64 1, .int .u64 1, .int .u64 0, .int .u64 0]) (by simp [results, Try.results38, go_sem]) rfl ⟨rfl, ((Below.refl _ w).alloc (Nat.le_refl _) _).alloc (by simp) _⟩
  · have e0 : ((d : Int) == 0) = false := by rw [beq_eq_false_iff_ne]; omega
    have e1 : ((d : Int) == 1) = false := by rw [beq_eq_false_iff_ne]; omega
    have ht : timesN d 0 = d - 1 ∧ timesN d 1 = 1 ∧ timesN d 2 = 1 ∧ timesN d 3 = 1 := by
      simp [timesN, show d ≠ 0 by omega, show d ≠ 1 by omega]
    have HT := Lib.hid ht
    have hd1 : (1 : Int) ≤ (d : Int) := by omega
    clear ht
    go_wp2
    refine bodyPost_ret (v := .agg #[.int .u64 ((d : Int) - 1), .int .u64 1, .int .u64 1, .int .u64 1]) (by simp [results, Try.results38, go_sem]) rfl ⟨?_, ((Below.refl _ w).alloc (Nat.le_refl _) _).alloc (by simp) _⟩
    obtain ⟨t0, t1, t2, t3⟩ := HT.out
    rw [t0, t1, t2, t3, Int.natCast_sub (by omega)]
    rfl

end Go.Proofs.Ytpdhkpgnajfobaa
end
section
/- Numbers by digits of 2^32, the least one first: times a number, and which of two is the greater one. -/
namespace Go.Proofs.Dg

def val : List Nat → Nat
  | [] => 0
  | d :: l => d + 4294967296 * val l
/-- One times x, and r to that; what is beyond the last digit is left out. -/
def tms (x : Nat) : Nat → List Nat → List Nat
  | _, [] => []
  | r, d :: l => (d * x + r) % 4294967296 :: tms x ((d * x + r) / 4294967296) l
def Low (l : List Nat) : Prop := ∀ d ∈ l, d < 4294967296
theorem tms_len (x : Nat) : ∀ (r : Nat) (l : List Nat), (tms x r l).length = l.length
  | _, [] => rfl
  | r, d :: l => by rw [tms, List.length_cons, List.length_cons, tms_len]
theorem tms_low (x : Nat) : ∀ (r : Nat) (l : List Nat), Low (tms x r l)
  | _, [] => fun d h => by cases h
  | r, d :: l => by
    intro e he
    rw [tms] at he
    rcases List.mem_cons.1 he with h | h
    · rw [h]; exact Nat.mod_lt _ (by decide)
    · exact tms_low x _ l e h
theorem tms_val (x : Nat) : ∀ (r : Nat) (l : List Nat), val l * x + r < 4294967296 ^ l.length → val (tms x r l) = val l * x + r
  | r, [], h => by
    simp [val] at h
    simp [tms, val, h]
  | r, d :: l, h => by
    have hm := Nat.mod_add_div (d * x + r) 4294967296
    have e : val (d :: l) * x + r = (d * x + r) + 4294967296 * (val l * x) := by
      rw [val, Nat.add_mul, Nat.mul_assoc]
      omega
    have hq : val l * x + (d * x + r) / 4294967296 < 4294967296 ^ l.length := by
      rw [e, List.length_cons, Nat.pow_succ] at h
      generalize 4294967296 ^ l.length = P at *
      generalize val l * x = V at *
      omega
    rw [tms, val, tms_val x _ l hq, e, Nat.mul_add]
    omega
theorem val_lt : ∀ {l : List Nat}, Low l → val l < 4294967296 ^ l.length
  | [], _ => by simp [val]
  | d :: l, h => by
    have h1 := h d List.mem_cons_self
    have h2 := val_lt (l := l) fun e he => h e (List.mem_cons_of_mem _ he)
    rw [val, List.length_cons, Nat.pow_succ]
    omega
/-- From digit i on downward: all above are alike. -/
theorem val_split : ∀ (l : List Nat) (i : Nat), val l = val (l.take i) + 4294967296 ^ (l.take i).length * val (l.drop i)
  | [], i => by simp [val]
  | d :: l, 0 => by simp [val]
  | d :: l, i + 1 => by
    rw [List.take_succ_cons, List.drop_succ_cons, val, val, val_split l i, List.length_cons, Nat.pow_succ, Nat.mul_add]
    rw [Nat.mul_comm (4294967296 ^ _) 4294967296, Nat.mul_assoc]
    omega
theorem val_cmp {a b : List Nat} (hl : a.length = b.length) (ha : Low a) (hb : Low b) {i : Nat} (hi : i < a.length) (hup : a.drop (i + 1) = b.drop (i + 1)) (hne : a[i] ≠ b[i]'(by omega)) : (val a ≤ val b) ↔ a[i] < b[i]'(by omega) := by
  have hib : i < b.length := by omega
  have e1 := val_split a i
  have e2 := val_split b i
  rw [List.drop_eq_getElem_cons hi, val] at e1
  rw [List.drop_eq_getElem_cons hib, val, ← hup] at e2
  have t1 := val_lt (l := a.take i) fun d hd => ha d (List.mem_of_mem_take hd)
  have t2 := val_lt (l := b.take i) fun d hd => hb d (List.mem_of_mem_take hd)
  have hla : (a.take i).length = i := by rw [List.length_take]; omega
  have hlb : (b.take i).length = i := by rw [List.length_take]; omega
  rw [hla] at e1 t1
  rw [hlb] at e2 t2
  have hx := ha a[i] (List.getElem_mem hi)
  have hy := hb b[i] (List.getElem_mem hib)
  rw [e1, e2, Nat.mul_add, Nat.mul_add]
  generalize a[i] = x at *
  generalize b[i] = y at *
  generalize val (a.take i) = u at *
  generalize val (b.take i) = v at *
  generalize 4294967296 ^ i * (4294967296 * val (a.drop (i + 1))) = T at *
  generalize 4294967296 ^ i = P at *
  constructor
  · intro h
    rcases Nat.lt_or_ge x y with g | g
    · exact g
    · have : P * (y + 1) ≤ P * x := Nat.mul_le_mul_left _ (by omega)
      rw [Nat.mul_add] at this
      omega
  · intro g
    have : P * (x + 1) ≤ P * y := Nat.mul_le_mul_left _ (by omega)
    rw [Nat.mul_add] at this
    omega
theorem val_same {a b : List Nat} (h : a.drop 0 = b.drop 0) : val a ≤ val b := by
  rw [List.drop_zero, List.drop_zero] at h
  rw [h]
  exact Nat.le_refl _
/-- A number of 64 bits. -/
theorem val_two (n k : Nat) : val (n % 4294967296 :: n / 4294967296 :: List.replicate k 0) = n := by
  have h0 : ∀ k, val (List.replicate k 0) = 0 := by
    intro k
    induction k with
    | zero => rfl
    | succ k ih => rw [List.replicate_succ, val, ih]
  rw [val, val, h0]
  omega

end Go.Proofs.Dg
end
