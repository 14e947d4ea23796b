/- Plain mathematics of trees: four histograms merged in pairs, and again. · Trees: Light, Times. · Numbers by digits of 2^32, the least one first: times a number, and which of two is the greater one. · skylightlaw10.digits, times: numbers in eight digits of 2^32. -/
import Derived.Test.YtmdknedngiggdaaJ16
import Derived.Test.YtmdknedngiggdaaJ01
section
/- Plain mathematics of trees: four histograms merged in pairs, and again. -/
namespace Go.Proofs.Lh
open Go.Proofs.Lm (Sp)

theorem play_tot {k : Nat} (h2 : 2 ≤ k) (h1 : k ≤ 1024) (ds : List Sp) (B : Nat) (hw : ∀ x ∈ ds, x.2 ≤ B) : ∀ j, j ≤ ds.length → tot (play k ds j).2 ≤ j * B
  | 0, _ => by rw [play_zero]; simp [tot]
  | j + 1, h => by
    have ih := play_tot h2 h1 ds B hw j (by omega)
    have hx := hw (ds[j]'(by omega)) (List.getElem_mem _)
    rw [play_succ k ds j (by omega), step_levs, Nat.add_mul]
    split
    · rw [addW_tot]
      omega
    · omega
def timesN (d i : Nat) : Nat := if d = 0 then (if i = 0 then 1 else 0) else if d = 1 then (if i < 2 then 1 else 0) else if i = 0 then d - 1 else 1
def hM (k : Nat) (L : Nat → Lv) (i : Nat) : Hm := ((k : Int), 0, L i)
def twoM (k : Nat) (L : Nat → Lv) : Hm := outM [] [outM [] [hM k L 0, hM k L 1], outM [] [hM k L 2, hM k L 3]]
def treeM (k : Nat) (L : Nat → Lv) : Nat → Hm
  | 0 => hM k L 0
  | 1 => outM [] [hM k L 0, hM k L 1]
  | 2 => twoM k L
  | d + 3 => outM [] [treeM k L (d + 2), hM k L 0]
def sumT (d : Nat) (f : Nat → Nat) : Nat := timesN d 0 * f 0 + timesN d 1 * f 1 + timesN d 2 * f 2 + timesN d 3 * f 3
theorem gmax_two (a b : Hm) (ha : 0 ≤ a.2.1) : gmax [a, b] = max a.2.1 b.2.1 := by
  unfold gmax
  rw [List.foldl_cons, List.foldl_cons, List.foldl_nil]
  omega
theorem Stt.pair {k g : Nat} {a b : Hm} {Na Nb : (Nat → Bool) → Nat} {Ta Tb : Nat} (ha : Stt k a Na Ta) (hb : Stt k b Nb Tb) (hg : max a.2.1 b.2.1 = (g : Int)) (hg4 : g < 4) (ht : Ta + Tb ≤ 4503599627370496) :
    badN [] [a, b] = 0 ∧ (outM [] [a, b]).2.1 = (g : Int) + 1 ∧ Stt k (outM [] [a, b]) (fun p => Na p + Nb p) (Ta + Tb) := by
  have htt : totM [a, b] = Ta + Tb := by
    unfold totM
    simp [ha.total, hb.total]
  obtain ⟨h1, h2, h3⟩ := Stt.merge (k := k) (g := g) (ms := [a, b]) (Ns := [Na, Nb]) (by simp) rfl (by
    intro i hi
    match i, hi with
    | 0, _ => exact ⟨ha.kk, ha.good, ha.stands, rfl⟩
    | 1, _ => exact ⟨hb.kk, hb.good, hb.stands, rfl⟩) (by rw [gmax_two a b ha.good.gen0]; exact hg) hg4 (by rw [htt]; exact ht)
  rw [htt] at h3
  refine ⟨h1, h2, h3.kk, h3.good, h3.stands.congr fun p => ?_, h3.total⟩
  simp
/-- What stands in a tree. -/
theorem tree_st {k : Nat} {L : Nat → Lv} {N : Nat → (Nat → Bool) → Nat} (hL : ∀ i, i < 4 → Stt k (hM k L i) (N i) (tot (L i))) (hT : ∀ i, i < 4 → tot (L i) ≤ 35184372088832) :
    (outM [] [hM k L 0, hM k L 1]).2.1 = 1 ∧ (outM [] [hM k L 2, hM k L 3]).2.1 = 1 ∧ Good (outM [] [hM k L 0, hM k L 1]) ∧ Good (outM [] [hM k L 2, hM k L 3]) ∧
    ∀ d, d ≤ 4 → (treeM k L d).2.1 = (d : Int) ∧ Stt k (treeM k L d) (fun p => sumT d fun i => N i p) (sumT d fun i => tot (L i)) := by
  have t0 := hT 0 (by omega)
  have t1 := hT 1 (by omega)
  have t2 := hT 2 (by omega)
  have t3 := hT 3 (by omega)
  have h0 := hL 0 (by omega)
  have h1 := hL 1 (by omega)
  have h2 := hL 2 (by omega)
  have h3 := hL 3 (by omega)
  have g0 : ∀ i, (hM k L i).2.1 = 0 := fun i => rfl
  obtain ⟨-, e01, s01⟩ := h0.pair h1 (g := 0) (by rw [g0, g0]; rfl) (by omega) (by omega)
  obtain ⟨-, e23, s23⟩ := h2.pair h3 (g := 0) (by rw [g0, g0]; rfl) (by omega) (by omega)
  obtain ⟨-, e2, s2⟩ := s01.pair s23 (g := 1) (by rw [e01, e23]; rfl) (by omega) (by omega)
  obtain ⟨-, e3, s3⟩ := s2.pair h0 (g := 2) (by rw [e2, g0]; rfl) (by omega) (by omega)
  obtain ⟨-, e4, s4⟩ := s3.pair h0 (g := 3) (by rw [e3, g0]; rfl) (by omega) (by omega)
  refine ⟨e01, e23, s01.good, s23.good, fun d hd => ?_⟩
  match d, hd with
  | 0, _ => exact ⟨rfl, h0.kk, h0.good, h0.stands.congr fun p => by simp [sumT, timesN], by rw [show treeM k L 0 = hM k L 0 from rfl, h0.total]; simp [sumT, timesN]⟩
  | 1, _ => exact ⟨e01, s01.kk, s01.good, s01.stands.congr fun p => by simp [sumT, timesN], by rw [show treeM k L 1 = outM [] [hM k L 0, hM k L 1] from rfl, s01.total]; simp [sumT, timesN]⟩
  | 2, _ => exact ⟨e2, s2.kk, s2.good, s2.stands.congr fun p => by simp [sumT, timesN]; omega, by rw [show treeM k L 2 = twoM k L from rfl]; unfold twoM; rw [s2.total]; simp [sumT, timesN]; omega⟩
  | 3, _ => exact ⟨e3, s3.kk, s3.good, s3.stands.congr fun p => by simp [sumT, timesN]; omega, by rw [show treeM k L 3 = outM [] [twoM k L, hM k L 0] from rfl]; unfold twoM; rw [s3.total]; simp [sumT, timesN]; omega⟩
  | 4, _ => exact ⟨e4, s4.kk, s4.good, s4.stands.congr fun p => by simp [sumT, timesN]; omega, by rw [show treeM k L 4 = outM [] [outM [] [twoM k L, hM k L 0], hM k L 0] from rfl]; unfold twoM; rw [s4.total]; simp [sumT, timesN]; omega⟩
end Go.Proofs.Lh
end
section
/- Trees: Light, Times. -/
namespace Go.Proofs.Ytmdknedngiggdaa
open Go.RowKit Go.Shelf Go.Proofs.Rw Go.Proofs.Lh Go.Proofs.Rf

/-- A tree that came in. -/
structure Tr where
  K : Int
  A : Nat → Option Addr
  c : Nat → Nat
  ds : Nat → List Sp
  deep : Nat
abbrev Tr.sl (t : Tr) (i : Nat) : Value := .slice (t.A i) (t.ds i).length (t.c i)
abbrev Tr.cells (t : Tr) : Array Value := #[.int .i64 t.K, t.sl 0, t.sl 1, t.sl 2, t.sl 3, .int .u8 (t.deep : Int)]
structure TrOk (t : Tr) (w : World) : Prop where
  wf : (Lit.int IntKind.i64 t.K).wf = true
  deep : t.deep < 256
  deeds : ∀ i, i < 4 → Deeds w (t.A i) (t.ds i).length (t.c i) (t.ds i)
theorem TrOk.grow {t : Tr} {w w' : World} (h : TrOk t w) (hb : Below w.heap.size w w') : TrOk t w' := ⟨h.wf, h.deep, fun i hi => (h.deeds i hi).grow hb⟩
theorem tr_box {W : World} {b : Nat} {t : Tr} {T : TypeId} {fr : Nat × Nat} (h : W.heap[b]? = some (.cells t.cells T fr)) : W.cell? ⟨b, 0, none⟩ = some (.int .i64 t.K) ∧ (∀ i, i < 4 → W.cell? ⟨b, 1 + i, none⟩ = some (.slice (t.A i) (t.ds i).length (t.c i))) ∧ W.cell? ⟨b, 5, none⟩ = some (.int .u8 (t.deep : Int)) := by
  refine ⟨by simp [World.cell?, h], fun i hi => ?_, by simp [World.cell?, h]⟩
  match i, hi with
  | 0, _ => simp [World.cell?, h]
  | 1, _ => simp [World.cell?, h]
  | 2, _ => simp [World.cell?, h]
  | 3, _ => simp [World.cell?, h]
theorem box4 {W : World} {b : Nat} {x y z u : Value} {t : TypeId} (h : W.heap[b]? = some (.cells #[x, y, z, u] t)) : W.cell? ⟨b, 0, none⟩ = some x ∧ W.cell? ⟨b, 1, none⟩ = some y ∧ W.cell? ⟨b, 2, none⟩ = some z ∧ W.cell? ⟨b, 3, none⟩ = some u := by simp [World.cell?, h]
theorem set4 {W : World} {b : Nat} {x y z u : Value} {T : TypeId} (h : W.heap[b]? = some (.cells #[x, y, z, u] T)) (x' y' z' u' : Value) :
    ((((W.setCell ⟨b, 0, none⟩ x').setCell ⟨b, 1, none⟩ y').setCell ⟨b, 2, none⟩ z').setCell ⟨b, 3, none⟩ u').heap[b]? = some (.cells #[x', y', z', u'] T) := by
  rw [set1 _ (set1 _ (set1 _ (set1 _ h)))]
  rfl
theorem below4 {W : World} {b B : Nat} {w : World} (h : Below B w W) (hb : B ≤ b) (x' y' z' u' : Value) : Below B w ((((W.setCell ⟨b, 0, none⟩ x').setCell ⟨b, 1, none⟩ y').setCell ⟨b, 2, none⟩ z').setCell ⟨b, 3, none⟩ u') :=
  (((h.setCell (p := ⟨b, 0, none⟩) hb _).setCell (p := ⟨b, 1, none⟩) hb _).setCell (p := ⟨b, 2, none⟩) hb _).setCell (p := ⟨b, 3, none⟩) hb _
def LightAt (t : Tr) (i : Nat) : Prop := (t.ds i).length ≤ 20 ∧ ∀ x ∈ t.ds i, x.2 ≤ 1099511627776
def IsLight (t : Tr) : Prop := ∀ i, i < 4 → LightAt t i

def LightP (t : Tr) (w : World) (e : Ending) (w' : World) : Prop := ∃ q : Bool, e = .returned (.bool q) ∧ (q = true → IsLight t) ∧ Below w.heap.size w w'
set_option maxHeartbeats 4000000 in
theorem lightT_any (t : Tr) (w : World) (hok : TrOk t w) : Calls Try.prog 21 #[.agg t.cells] w (LightP t w) := by
  obtain ⟨W0, hW0⟩ : ∃ W, w.alloc (.cells t.cells 52) = W := ⟨_, rfl⟩
  have hB0 : Below w.heap.size w W0 := by rw [← hW0]; exact (Below.refl _ w).alloc (Nat.le_refl _) _
  have p0 : W0.heap[w.heap.size]? = some (.cells t.cells 52) := by rw [← hW0]; exact heap_alloc_new w _
  have hok0 := hok.grow hB0
  obtain ⟨x0, x1, x2⟩ := tr_box p0
  have l0 := lt_of p0
  have HOK := Lib.hid hok0
  have HB0 := Lib.hid hB0
  have X1 := Lib.hid x1
  have HW0 := Lib.hid hW0
  clear hok hok0 hB0 p0 x1 hW0
  go_enter Try.func21, Try.ntmps21
  go_upto_region 1 with (fail)
  rw [HW0.out]
  go_wp2
  go_loop [3] (fun p => ∃ i : Nat, p = .int .i64 (i : Int) ∧ i ≤ 4 ∧ Hid (∀ i', i' < i → LightAt t i')) (fun p => 4 - (intOf p).toNat)
  case atStart => exact ⟨0, rfl, by omega, Lib.hid fun i' h => absurd h (by omega)⟩
  case round =>
    obtain ⟨i, rfl, hi, HA⟩ := hrel
    by_cases hlt : i < 4
    · have q1 := X1.out i hlt
      have hd := HOK.out.deeds i hlt
      have hwl : (t.ds i).length ≤ maxLen := by
        obtain ⟨A', c', hv, h1, h2, _⟩ := hd.2.1
        omega
      unfold maxLen at hwl
      obtain ⟨n, hn⟩ : ∃ n, (t.ds i).length = n := ⟨_, rfl⟩
      rw [hn] at q1 hwl
      obtain ⟨A, hA⟩ : ∃ A, t.A i = A := ⟨_, rfl⟩
      obtain ⟨c, hc⟩ : ∃ c, t.c i = c := ⟨_, rfl⟩
      have hlies := hd.2.1
      rw [hn] at hlies
      rw [hA, hc] at q1 hlies
      have HL := Lib.hid hlies
      have HN := Lib.hid hn
      clear hd hlies hA hc hn
      by_cases h20 : n ≤ 20
      · go_wp2
        go_loop [4] (fun p => ∃ k : Nat, p = .int .i64 (k : Int) ∧ k ≤ n ∧ Hid (∀ k' (h : k' < (t.ds i).length), k' < k → (t.ds i)[k'].2 ≤ 1099511627776)) (fun p => n - (intOf p).toNat)
        case atStart => exact ⟨0, rfl, Nat.zero_le _, Lib.hid fun k' _ h => absurd h (by omega)⟩
        case round =>
          obtain ⟨k, rfl, hk, HK⟩ := hrel
          by_cases hkt : k < n
          · have hkl : k < (t.ds i).length := by rw [HN.out]; exact hkt
            obtain ⟨b2, off2, rfl, hb2, -, hc2⟩ := sp_at HL.out (by omega)
            obtain ⟨e0, e1⟩ := hc2 k hkl
            obtain ⟨x, hx⟩ : ∃ x, (t.ds i)[k].2 = x := ⟨_, rfl⟩
            rw [hx] at e1
            have HX := Lib.hid hx
            clear hc2 hx
            by_cases hbig : 1099511627776 < x
            · go_wp2
              go_ret
              exact ⟨false, rfl, (fun h => by cases h), HB0.out⟩
            · have hle : x ≤ 1099511627776 := by omega
              go_wp2
              refine ⟨⟨k + 1, by go_num, hkt, Lib.hid fun k' hk' hkk => ?_⟩, by simp [intOf]; omega⟩
              rcases Nat.lt_or_ge k' k with h | h
              · exact HK.out k' hk' h
              · have e : k' = k := by omega
                subst e
                rw [HX.out]
                exact hle
          · have e : k = n := by omega
            have hall : LightAt t i := by
              refine ⟨by rw [HN.out]; exact h20, fun x hx => ?_⟩
              obtain ⟨k', hk', rfl⟩ := List.getElem_of_mem hx
              exact HK.out k' hk' (by have := HN.out; omega)
            have HALL := Lib.hid hall
            subst e
            clear hall
            go_wp2
            refine ⟨⟨i + 1, by go_num, hlt, Lib.hid fun i' h => ?_⟩, by simp [intOf]; omega⟩
            rcases Nat.lt_or_ge i' i with h' | h'
            · exact HA.out i' h'
            · have e : i' = i := by omega
              rw [e]
              exact HALL.out
      · have h21 : (20 : Int) < (n : Int) := by omega
        go_wp2
        go_ret
        exact ⟨false, rfl, (fun h => by cases h), HB0.out⟩
    · have e : i = 4 := by omega
      subst e
      go_wp2
      go_ret
      exact ⟨true, rfl, fun _ => HA.out, HB0.out⟩

end Go.Proofs.Ytmdknedngiggdaa
end
section
/- Numbers by digits of 2^32, the least one first: times a number, and which of two is the greater one. -/
namespace Go.Proofs.Dg

def val : List Nat → Nat
  | [] => 0
  | d :: l => d + 4294967296 * val l
/-- One times x, and r to that; what is beyond the last digit is left out. -/
def tms (x : Nat) : Nat → List Nat → List Nat
  | _, [] => []
  | r, d :: l => (d * x + r) % 4294967296 :: tms x ((d * x + r) / 4294967296) l
def Low (l : List Nat) : Prop := ∀ d ∈ l, d < 4294967296
theorem tms_len (x : Nat) : ∀ (r : Nat) (l : List Nat), (tms x r l).length = l.length
  | _, [] => rfl
  | r, d :: l => by rw [tms, List.length_cons, List.length_cons, tms_len]
theorem tms_low (x : Nat) : ∀ (r : Nat) (l : List Nat), Low (tms x r l)
  | _, [] => fun d h => by cases h
  | r, d :: l => by
    intro e he
    rw [tms] at he
    rcases List.mem_cons.1 he with h | h
    · rw [h]; exact Nat.mod_lt _ (by decide)
    · exact tms_low x _ l e h
theorem tms_val (x : Nat) : ∀ (r : Nat) (l : List Nat), val l * x + r < 4294967296 ^ l.length → val (tms x r l) = val l * x + r
  | r, [], h => by
    simp [val] at h
    simp [tms, val, h]
  | r, d :: l, h => by
    have hm := Nat.mod_add_div (d * x + r) 4294967296
    have e : val (d :: l) * x + r = (d * x + r) + 4294967296 * (val l * x) := by
      rw [val, Nat.add_mul, Nat.mul_assoc]
      omega
    have hq : val l * x + (d * x + r) / 4294967296 < 4294967296 ^ l.length := by
      rw [e, List.length_cons, Nat.pow_succ] at h
      generalize 4294967296 ^ l.length = P at *
      generalize val l * x = V at *
      omega
    rw [tms, val, tms_val x _ l hq, e, Nat.mul_add]
    omega
theorem val_lt : ∀ {l : List Nat}, Low l → val l < 4294967296 ^ l.length
  | [], _ => by simp [val]
  | d :: l, h => by
    have h1 := h d List.mem_cons_self
    have h2 := val_lt (l := l) fun e he => h e (List.mem_cons_of_mem _ he)
    rw [val, List.length_cons, Nat.pow_succ]
    omega
/-- From digit i on downward: all above are alike. -/
theorem val_split : ∀ (l : List Nat) (i : Nat), val l = val (l.take i) + 4294967296 ^ (l.take i).length * val (l.drop i)
  | [], i => by simp [val]
  | d :: l, 0 => by simp [val]
  | d :: l, i + 1 => by
    rw [List.take_succ_cons, List.drop_succ_cons, val, val, val_split l i, List.length_cons, Nat.pow_succ, Nat.mul_add]
    rw [Nat.mul_comm (4294967296 ^ _) 4294967296, Nat.mul_assoc]
    omega
theorem val_cmp {a b : List Nat} (hl : a.length = b.length) (ha : Low a) (hb : Low b) {i : Nat} (hi : i < a.length) (hup : a.drop (i + 1) = b.drop (i + 1)) (hne : a[i] ≠ b[i]'(by omega)) : (val a ≤ val b) ↔ a[i] < b[i]'(by omega) := by
  have hib : i < b.length := by omega
  have e1 := val_split a i
  have e2 := val_split b i
  rw [List.drop_eq_getElem_cons hi, val] at e1
  rw [List.drop_eq_getElem_cons hib, val, ← hup] at e2
  have t1 := val_lt (l := a.take i) fun d hd => ha d (List.mem_of_mem_take hd)
  have t2 := val_lt (l := b.take i) fun d hd => hb d (List.mem_of_mem_take hd)
  have hla : (a.take i).length = i := by rw [List.length_take]; omega
  have hlb : (b.take i).length = i := by rw [List.length_take]; omega
  rw [hla] at e1 t1
  rw [hlb] at e2 t2
  have hx := ha a[i] (List.getElem_mem hi)
  have hy := hb b[i] (List.getElem_mem hib)
  rw [e1, e2, Nat.mul_add, Nat.mul_add]
  generalize a[i] = x at *
  generalize b[i] = y at *
  generalize val (a.take i) = u at *
  generalize val (b.take i) = v at *
  generalize 4294967296 ^ i * (4294967296 * val (a.drop (i + 1))) = T at *
  generalize 4294967296 ^ i = P at *
  constructor
  · intro h
    rcases Nat.lt_or_ge x y with g | g
    · exact g
    · have : P * (y + 1) ≤ P * x := Nat.mul_le_mul_left _ (by omega)
      rw [Nat.mul_add] at this
      omega
  · intro g
    have : P * (x + 1) ≤ P * y := Nat.mul_le_mul_left _ (by omega)
    rw [Nat.mul_add] at this
    omega
theorem val_same {a b : List Nat} (h : a.drop 0 = b.drop 0) : val a ≤ val b := by
  rw [List.drop_zero, List.drop_zero] at h
  rw [h]
  exact Nat.le_refl _
/-- A number of 64 bits. -/
theorem val_two (n k : Nat) : val (n % 4294967296 :: n / 4294967296 :: List.replicate k 0) = n := by
  have h0 : ∀ k, val (List.replicate k 0) = 0 := by
    intro k
    induction k with
    | zero => rfl
    | succ k ih => rw [List.replicate_succ, val, ih]
  rw [val, val, h0]
  omega

end Go.Proofs.Dg
end
section
/- skylightlaw10.digits, times: numbers in eight digits of 2^32. -/
namespace Go.Proofs.Dg
def carry (x : Nat) (d : Nat → Nat) : Nat → Nat
  | 0 => 0
  | i + 1 => (d i * x + carry x d i) / 4294967296
def prodD (x : Nat) (d : Nat → Nat) (i : Nat) : Nat := (d i * x + carry x d i) % 4294967296
def list8 (d : Nat → Nat) : List Nat := [d 0, d 1, d 2, d 3, d 4, d 5, d 6, d 7]
theorem tms_list (x : Nat) (d : Nat → Nat) : tms x 0 (list8 d) = list8 (prodD x d) := rfl
theorem carry_lt {x : Nat} (hx : x ≤ 4294967295) {d : Nat → Nat} (hd : ∀ i, i < 8 → d i < 4294967296) : ∀ i, i ≤ 8 → carry x d i < 4294967296 ∧ (i < 8 → d i * x + carry x d i < 18446744073709551616)
  | 0, _ => ⟨by show (0 : Nat) < _; omega, fun h => by
      have h0 := hd 0 h
      have : d 0 * x ≤ 4294967295 * 4294967295 := Nat.mul_le_mul (by omega) hx
      show d 0 * x + 0 < _
      omega⟩
  | i + 1, h => by
    obtain ⟨h1, h2⟩ := carry_lt hx hd i (by omega)
    have h3 := h2 (by omega)
    have hc : carry x d (i + 1) < 4294967296 := by
      show (d i * x + carry x d i) / 4294967296 < _
      omega
    refine ⟨hc, fun hi => ?_⟩
    have h0 := hd (i + 1) hi
    have : d (i + 1) * x ≤ 4294967295 * 4294967295 := Nat.mul_le_mul (by omega) hx
    omega
theorem prod_lt (x : Nat) (d : Nat → Nat) (i : Nat) : prodD x d i < 4294967296 := Nat.mod_lt _ (by decide)
theorem low8 {d : Nat → Nat} (hd : ∀ i, i < 8 → d i < 4294967296) : Low (list8 d) := by
  intro e he
  simp only [list8, List.mem_cons, List.not_mem_nil, or_false] at he
  rcases he with rfl | rfl | rfl | rfl | rfl | rfl | rfl | rfl
  · exact hd 0 (by omega)
  · exact hd 1 (by omega)
  · exact hd 2 (by omega)
  · exact hd 3 (by omega)
  · exact hd 4 (by omega)
  · exact hd 5 (by omega)
  · exact hd 6 (by omega)
  · exact hd 7 (by omega)
theorem val_prod {x : Nat} {d : Nat → Nat} (h : val (list8 d) * x < 4294967296 ^ 8) : val (list8 (prodD x d)) = val (list8 d) * x := by
  rw [← tms_list]
  have := tms_val x 0 (list8 d) (by rw [Nat.add_zero]; exact h)
  rw [this, Nat.add_zero]
def numD (n : Nat) (i : Nat) : Nat := if i = 0 then n % 4294967296 else if i = 1 then n / 4294967296 else 0
theorem val_num (n : Nat) : val (list8 (numD n)) = n := val_two n 6
end Go.Proofs.Dg
namespace Go.Proofs.Ytmdknedngiggdaa
open Go.RowKit Go.Shelf Go.Proofs.Rw Go.Proofs.Lh Go.Proofs.Rf Go.Proofs.Dg

abbrev arr8 (d : Nat → Nat) : Array Value := #[.int .u64 (d 0 : Int), .int .u64 (d 1 : Int), .int .u64 (d 2 : Int), .int .u64 (d 3 : Int), .int .u64 (d 4 : Int), .int .u64 (d 5 : Int), .int .u64 (d 6 : Int), .int .u64 (d 7 : Int)]
theorem arr_at {W : World} {b : Nat} {d : Nat → Nat} {T : TypeId} (h : W.heap[b]? = some (.cells (arr8 d) T)) (i : Nat) (hi : i < 8) : W.cell? ⟨b, i, none⟩ = some (.int .u64 (d i : Int)) := by
  match i, hi with
  | 0, _ => simp [World.cell?, h]
  | 1, _ => simp [World.cell?, h]
  | 2, _ => simp [World.cell?, h]
  | 3, _ => simp [World.cell?, h]
  | 4, _ => simp [World.cell?, h]
  | 5, _ => simp [World.cell?, h]
  | 6, _ => simp [World.cell?, h]
  | 7, _ => simp [World.cell?, h]
theorem box8 {W : World} {b : Nat} {d : Nat → Nat} {T : TypeId} (h : W.heap[b]? = some (.cells (arr8 d) T)) : W.cell? ⟨b, 0, none⟩ = some (.int .u64 (d 0 : Int)) ∧ W.cell? ⟨b, 1, none⟩ = some (.int .u64 (d 1 : Int)) ∧ W.cell? ⟨b, 2, none⟩ = some (.int .u64 (d 2 : Int)) ∧ W.cell? ⟨b, 3, none⟩ = some (.int .u64 (d 3 : Int)) ∧ W.cell? ⟨b, 4, none⟩ = some (.int .u64 (d 4 : Int)) ∧ W.cell? ⟨b, 5, none⟩ = some (.int .u64 (d 5 : Int)) ∧ W.cell? ⟨b, 6, none⟩ = some (.int .u64 (d 6 : Int)) ∧ W.cell? ⟨b, 7, none⟩ = some (.int .u64 (d 7 : Int)) :=
  ⟨arr_at h 0 (by omega), arr_at h 1 (by omega), arr_at h 2 (by omega), arr_at h 3 (by omega), arr_at h 4 (by omega), arr_at h 5 (by omega), arr_at h 6 (by omega), arr_at h 7 (by omega)⟩
def store8 (W : World) (b : Nat) (e : Nat → Nat) : World := (((((((W.setCell ⟨b, 0, none⟩ (.int .u64 (e 0 : Int))).setCell ⟨b, 1, none⟩ (.int .u64 (e 1 : Int))).setCell ⟨b, 2, none⟩ (.int .u64 (e 2 : Int))).setCell ⟨b, 3, none⟩ (.int .u64 (e 3 : Int))).setCell ⟨b, 4, none⟩ (.int .u64 (e 4 : Int))).setCell ⟨b, 5, none⟩ (.int .u64 (e 5 : Int))).setCell ⟨b, 6, none⟩ (.int .u64 (e 6 : Int))).setCell ⟨b, 7, none⟩ (.int .u64 (e 7 : Int))
theorem store8_ne {W : World} {b q : Nat} (h : q ≠ b) (e : Nat → Nat) : (store8 W b e).heap[q]? = W.heap[q]? := by
  unfold store8
  rw [Below.heap_setCell _ _ _ _ h, Below.heap_setCell _ _ _ _ h, Below.heap_setCell _ _ _ _ h, Below.heap_setCell _ _ _ _ h, Below.heap_setCell _ _ _ _ h, Below.heap_setCell _ _ _ _ h, Below.heap_setCell _ _ _ _ h, Below.heap_setCell _ _ _ _ h]
theorem store8_below {W w : World} {b B : Nat} (h : Below B w W) (hb : B ≤ b) (e : Nat → Nat) : Below B w (store8 W b e) :=
  (((((((h.setCell (p := ⟨b, 0, none⟩) hb _).setCell (p := ⟨b, 1, none⟩) hb _).setCell (p := ⟨b, 2, none⟩) hb _).setCell (p := ⟨b, 3, none⟩) hb _).setCell (p := ⟨b, 4, none⟩) hb _).setCell (p := ⟨b, 5, none⟩) hb _).setCell (p := ⟨b, 6, none⟩) hb _).setCell (p := ⟨b, 7, none⟩) hb _
def upd1 (d : Nat → Nat) (i v : Nat) (j : Nat) : Nat := if j = i then v else d j
theorem arr_set {W : World} {b : Nat} {d : Nat → Nat} {T : TypeId} (h : W.heap[b]? = some (.cells (arr8 d) T)) (i : Nat) (hi : i < 8) (v : Nat) : (W.setCell ⟨b, i, none⟩ (.int .u64 (v : Int))).heap[b]? = some (.cells (arr8 (upd1 d i v)) T) := by
  rw [set1 _ h]
  match i, hi with
  | 0, _ => rfl
  | 1, _ => rfl
  | 2, _ => rfl
  | 3, _ => rfl
  | 4, _ => rfl
  | 5, _ => rfl
  | 6, _ => rfl
  | 7, _ => rfl
theorem arr_ext {d e : Nat → Nat} (h : ∀ i, i < 8 → d i = e i) : arr8 d = arr8 e := by
  unfold arr8
  rw [h 0 (by omega), h 1 (by omega), h 2 (by omega), h 3 (by omega), h 4 (by omega), h 5 (by omega), h 6 (by omega), h 7 (by omega)]
theorem set8 {W : World} {b : Nat} {d : Nat → Nat} {T : TypeId} (h : W.heap[b]? = some (.cells (arr8 d) T)) (e : Nat → Nat) : (store8 W b e).heap[b]? = some (.cells (arr8 e) T) := by
  have h1 := arr_set h 0 (by omega) (e 0)
  have h2 := arr_set h1 1 (by omega) (e 1)
  have h3 := arr_set h2 2 (by omega) (e 2)
  have h4 := arr_set h3 3 (by omega) (e 3)
  have h5 := arr_set h4 4 (by omega) (e 4)
  have h6 := arr_set h5 5 (by omega) (e 5)
  have h7 := arr_set h6 6 (by omega) (e 6)
  have h8 := arr_set h7 7 (by omega) (e 7)
  have hx : arr8 (upd1 (upd1 (upd1 (upd1 (upd1 (upd1 (upd1 (upd1 d 0 (e 0)) 1 (e 1)) 2 (e 2)) 3 (e 3)) 4 (e 4)) 5 (e 5)) 6 (e 6)) 7 (e 7)) = arr8 e := rfl
  rw [hx] at h8
  exact h8
def partD (x : Nat) (d : Nat → Nat) (i j : Nat) : Nat := if j < i then prodD x d j else 0
theorem part_next (x : Nat) (d : Nat → Nat) (i : Nat) : upd1 (partD x d i) i (prodD x d i) = partD x d (i + 1) := by
  funext j
  unfold upd1 partD
  by_cases h1 : j = i
  · subst h1
    rw [if_pos rfl, if_pos (by omega)]
  · rw [if_neg h1]
    by_cases h2 : j < i
    · rw [if_pos h2, if_pos (by omega)]
    · rw [if_neg h2, if_neg (by omega)]

end Go.Proofs.Ytmdknedngiggdaa
end
