/- Buffers in memory: rows of events of the call's own, rows of ticks, a buffer as a value. · Products of 128 bits and rests by 2^61 less 1, in Nat. · The contracts of wide. · The contracts of the document's own wide (skylightref03). -/
import Derived.Test.YthncmjimfkbofaaJ11
import Derived.Test.YthncmjimfkbofaaJ10
import Derived.WalkKit
import Derived.OwnWalk
import Derived.LoopTactic
import Derived.Lib.Hide
import Derived.IntWalk
import Derived.Deep.CutBlock
import Derived.Deep.QuietTactic
import Derived.Laws.MathBits
import Derived.Test.YthncmjimfkbofaaProg
section
/- Buffers in memory: rows of events of the call's own, rows of ticks, a buffer as a value. -/
set_option linter.unusedVariables false
namespace Go.Proofs.Rw
open Go Go.RowKit Go.Proofs.Lh Go.Proofs.Bu

/-- Numbers. -/
def nuL : Lay Nat := ⟨1, fun x => [.int .u64 x], fun _ => rfl⟩
theorem nu_one (ys : List Nat) : ∀ y ∈ ys, ∀ u ∈ nuL.enc y, u.oneCell' = true := by
  intro y _ u hu
  simp only [nuL, List.mem_cons, List.not_mem_nil, or_false] at hu
  subst hu
  rfl
theorem nu_at {w : World} {B : Nat} {A : Option Addr} {len cap : Nat} {xs : List Nat} (h : Lies nuL w B (.slice A len cap) xs) (h0 : 0 < xs.length) : ∃ b off, A = some ⟨b, off, none⟩ ∧ b < B ∧ len = xs.length ∧
    ∀ i (hi : i < xs.length), w.cell? ⟨b, off + i, none⟩ = some (.int .u64 xs[i]) := by
  obtain ⟨b, off, hA, hb, hl, hc⟩ := h.addr h0
  refine ⟨b, off, hA, hb, hl, fun i hi => ?_⟩
  have := hc i hi 0 _ rfl
  rwa [show i * nuL.size + 0 = i by show i * 1 + 0 = i; omega] at this

/-- A buffer as a value. -/
abbrev bval (l r m f : Int) (s : Value) : Value := .agg #[.int .u64 l, .int .i64 r, .int .u64 m, .int .u64 f, s]
abbrev bufV (b : Bf) (A : Option Addr) (c : Nat) : Value := bval (b.late : Int) (b.room : Int) (b.mark : Int) (b.front : Int) (.slice A b.evs.length c)

/-- A buffer's variable: five cells. -/
theorem box5 {W : World} {b : Nat} {v0 v1 v2 v3 v4 : Value} {t : TypeId} (h : W.heap[b]? = some (.cells #[v0, v1, v2, v3, v4] t)) :
    (W.cell? ⟨b, 0, none⟩ = some v0 ∧ W.cell? ⟨b, 1, none⟩ = some v1 ∧ W.cell? ⟨b, 2, none⟩ = some v2 ∧ W.cell? ⟨b, 3, none⟩ = some v3 ∧ W.cell? ⟨b, 4, none⟩ = some v4) ∧ ∀ i, W.frozen? ⟨b, i, none⟩ = false := by
  refine ⟨⟨?_, ?_, ?_, ?_, ?_⟩, fun i => ?_⟩ <;> simp [World.cell?, World.frozen?, h]
/-- All five are laid anew. -/
theorem set5 {W : World} {b : Nat} {v0 v1 v2 v3 v4 : Value} {t : TypeId} (h : W.heap[b]? = some (.cells #[v0, v1, v2, v3, v4] t)) (u0 u1 u2 u3 u4 : Value) :
    (((((W.setCell ⟨b, 0, none⟩ u0).setCell ⟨b, 1, none⟩ u1).setCell ⟨b, 2, none⟩ u2).setCell ⟨b, 3, none⟩ u3).setCell ⟨b, 4, none⟩ u4).heap[b]? = some (.cells #[u0, u1, u2, u3, u4] t) := by
  rw [heap_setCell_same _ b 4 _ t _ (heap_setCell_same _ b 3 _ t _ (heap_setCell_same _ b 2 _ t _ (heap_setCell_same _ b 1 _ t _ (heap_setCell_same _ b 0 _ t _ h))))]
  rfl
theorem below5 {W : World} {B b : Nat} (hb : B ≤ b) (u0 u1 u2 u3 u4 : Value) : Below B W (((((W.setCell ⟨b, 0, none⟩ u0).setCell ⟨b, 1, none⟩ u1).setCell ⟨b, 2, none⟩ u2).setCell ⟨b, 3, none⟩ u3).setCell ⟨b, 4, none⟩ u4) :=
  (((((Below.refl B W).setCell (p := ⟨b, 0, none⟩) hb u0).setCell (p := ⟨b, 1, none⟩) hb u1).setCell (p := ⟨b, 2, none⟩) hb u2).setCell (p := ⟨b, 3, none⟩) hb u3).setCell (p := ⟨b, 4, none⟩) hb u4
end Go.Proofs.Rw
namespace Go.Proofs.Ythncmjimfkbofaa
open Go.RowKit Go.Shelf Go.Proofs.Rw Go.Proofs.Lh Go.Proofs.Bu

theorem info_event : (Try.prog.info? 41).map (fun i => (i.zero, i.size, i.bytes)) = some (some (.agg #[.int .u64 0, .int .u64 0, .int .u64 0]), 3, 24) := by kernel_rfl
theorem info_u64 : (Try.prog.info? 22).map (fun i => (i.zero, i.size, i.bytes)) = some (some (.int .u64 0), 1, 8) := by kernel_rfl
/-- A row of events of the call's own. -/
abbrev OwnE (w : World) (base : Nat) (v : Value) (xs : List Ev) : Prop := w.ownsRow base 41 3 v xs.length (evL.cells xs)
abbrev OwnN (w : World) (base : Nat) (v : Value) (xs : List Nat) : Prop := w.ownsRow base 22 1 v xs.length (nuL.cells xs)
/-- An event in a literal of one: what append is handed. -/
theorem lit_ev (T : TypeId) (W : World) (n : Nat) (hn : W.heap.size = n) (e : Ev) : Lies evL (W.alloc (.cells #[.int .u64 e.1, .int .u64 e.2.1, .int .u64 e.2.2] T)) (n + 1) (.slice (some ⟨n, 0, none⟩) 1 1) [e] := by
  subst hn
  refine ⟨_, 1, rfl, by simp, by unfold maxLen; omega, .inr ⟨W.heap.size, 0, by omega, rfl, fun j u hu => ?_⟩⟩
  rw [Nat.zero_add, cell_of_row _ _ _ #[.int .u64 e.1, .int .u64 e.2.1, .int .u64 e.2.2] T (0, 0) (heap_alloc_new W _)]
  rw [cells_one] at hu
  simpa [evL] using hu
/-- Two ticks, and one, in a literal. -/
theorem lit_two (T : TypeId) (W : World) (a b : Nat) : Lies nuL (W.alloc (.cells #[.int .u64 a, .int .u64 b] T)) (W.heap.size + 1) (.slice (some ⟨W.heap.size, 0, none⟩) 2 2) [a, b] := by
  refine ⟨_, 2, rfl, by simp, by unfold maxLen; omega, .inr ⟨W.heap.size, 0, by omega, rfl, fun j u hu => ?_⟩⟩
  rw [Nat.zero_add, cell_of_row _ _ _ #[.int .u64 a, .int .u64 b] T (0, 0) (heap_alloc_new W _)]
  simpa [Lay.cells, nuL] using hu
theorem lit_tick (T : TypeId) (W : World) (a : Nat) : Lies nuL (W.alloc (.cells #[.int .u64 a] T)) (W.heap.size + 1) (.slice (some ⟨W.heap.size, 0, none⟩) 1 1) [a] := by
  refine ⟨_, 1, rfl, by simp, by unfold maxLen; omega, .inr ⟨W.heap.size, 0, by omega, rfl, fun j u hu => ?_⟩⟩
  rw [Nat.zero_add, cell_of_row _ _ _ #[.int .u64 a] T (0, 0) (heap_alloc_new W _)]
  simpa [Lay.cells, nuL] using hu

/-! ### New, Conf -/

def confB (l r : Int) : Bool := decide (l ≤ 4611686018427387904) && (decide (1 ≤ r) && decide (r ≤ 1024))
theorem fin5 {W : World} {b : Nat} {v0 v1 v2 v3 v4 : Value} {t : TypeId} (h : W.heap[b]? = some (.cells #[v0, v1, v2, v3, v4] t)) (u0 u1 u2 u3 u4 : Value) :
    ∃ W5, (((((W.setCell ⟨b, 0, none⟩ u0).setCell ⟨b, 1, none⟩ u1).setCell ⟨b, 2, none⟩ u2).setCell ⟨b, 3, none⟩ u3).setCell ⟨b, 4, none⟩ u4) = W5 ∧ W5.heap[b]? = some (.cells #[u0, u1, u2, u3, u4] t) ∧ W.grownBy W5 (some b) := by
  refine ⟨_, rfl, set5 h u0 u1 u2 u3 u4, ?_⟩
  exact grown_trans (grown_trans (grown_trans (grown_trans (grown_set _ b 0 u0) (grown_set _ b 1 u1)) (grown_set _ b 2 u2)) (grown_set _ b 3 u3)) (grown_set _ b 4 u4)
theorem below_row {w W W' : World} {b : Nat} (h : Below w.heap.size w W) (hg : W.grownBy W' (some b)) (hb : w.heap.size ≤ b) : Below w.heap.size w W' := h.grown hg h.size fun k e => by cases e; exact hb

def newV (l r : Int) : Value := .tuple (if confB l r then #[bval l r 0 0 (.slice none 0 0), .int .i64 0] else #[bval 0 0 0 0 (.slice none 0 0), .int .i64 9])
theorem newV_yes {l r : Int} (h : confB l r = true) : newV l r = .tuple #[bval l r 0 0 (.slice none 0 0), .int .i64 0] := by simp [newV, h]
theorem newV_no {l r : Int} (h : confB l r = false) : newV l r = .tuple #[bval 0 0 0 0 (.slice none 0 0), .int .i64 9] := by simp [newV, h]
theorem bnew_any (l r : Int) (w : World) :
    Calls Try.prog 27 #[.int .u64 l, .int .i64 r] w fun e w' => e = .returned (newV l r) ∧ Below w.heap.size w w' := by
  cases hc : confB l r
  · rw [newV_no hc]
    by_cases h1 : l ≤ 4611686018427387904
    · by_cases h2 : 1 ≤ r
      · have h3 : ¬ r ≤ 1024 := fun h3 => by simp [confB, h1, h2, h3] at hc
        clear hc
        go_enter Try.func27, Try.ntmps27
        go_wp2
        refine bodyPost_ret (v := .tuple #[bval 0 0 0 0 (.slice none 0 0), .int .i64 9]) (by simp [results, Try.results27, go_sem]) rfl ⟨rfl, (Below.refl _ w).alloc (Nat.le_refl _) _⟩
      · clear hc
        go_enter Try.func27, Try.ntmps27
        go_wp2
        refine bodyPost_ret (v := .tuple #[bval 0 0 0 0 (.slice none 0 0), .int .i64 9]) (by simp [results, Try.results27, go_sem]) rfl ⟨rfl, (Below.refl _ w).alloc (Nat.le_refl _) _⟩
    · clear hc
      go_enter Try.func27, Try.ntmps27
      go_wp2
      refine bodyPost_ret (v := .tuple #[bval 0 0 0 0 (.slice none 0 0), .int .i64 9]) (by simp [results, Try.results27, go_sem]) rfl ⟨rfl, (Below.refl _ w).alloc (Nat.le_refl _) _⟩
  · rw [newV_yes hc]
    have h1 : l ≤ 4611686018427387904 := by simp [confB] at hc; omega
    have h2 : 1 ≤ r := by simp [confB] at hc; omega
    have h3 : r ≤ 1024 := by simp [confB] at hc; omega
    clear hc
    go_enter Try.func27, Try.ntmps27
    go_wp2
    refine bodyPost_ret (v := .tuple #[bval l r 0 0 (.slice none 0 0), .int .i64 0]) (by simp [results, Try.results27, go_sem]) rfl ⟨rfl, (Below.refl _ w).alloc (Nat.le_refl _) _⟩

end Go.Proofs.Ythncmjimfkbofaa
end
section
/- Products of 128 bits and rests by 2^61 less 1, in Nat. -/
namespace Go.Proofs.Wm

/-- The prime. -/
def pr : Nat := 2305843009213693951
def mulHi (a b : Nat) : Nat := a * b / 18446744073709551616
def mulLo (a b : Nat) : Nat := a * b % 18446744073709551616
def modW (h l : Nat) : Nat := (h * 18446744073709551616 + l) % pr
def mulM (a b : Nat) : Nat := a * b % pr
def addM (a b : Nat) : Nat := (a + b) % pr

theorem mulM_lt (a b : Nat) : mulM a b < pr := Nat.mod_lt _ (by decide)
theorem addM_lt (a b : Nat) : addM a b < pr := Nat.mod_lt _ (by decide)
theorem modW_lt (a b : Nat) : modW a b < pr := Nat.mod_lt _ (by decide)
theorem pr_lt : pr < 18446744073709551616 := by decide

theorem mul_lt64 {a b : Nat} (ha : a < 18446744073709551616) (hb : b < 18446744073709551616) : mulHi a b < 18446744073709551616 := by
  unfold mulHi
  exact Nat.div_lt_of_lt_mul (Nat.mul_lt_mul'' ha hb)
theorem mulLo_lt (a b : Nat) : mulLo a b < 18446744073709551616 := Nat.mod_lt _ (by decide)

theorem modW_mul (a b : Nat) : modW (mulHi a b) (mulLo a b) = mulM a b := by
  unfold modW mulHi mulLo mulM
  rw [Nat.mul_comm (a * b / 18446744073709551616), Nat.div_add_mod]

/-- Halves: x = x1 * 2^32 + x0. -/
theorem halves (a : Nat) : a = a / 4294967296 * 4294967296 + a % 4294967296 := by omega

/-- What the halves' products come to: program's way. -/
theorem mul_halves {a1 a0 b1 b0 p00 p10 p01 p11 : Nat} (ha1 : a1 < 4294967296) (ha0 : a0 < 4294967296) (hb1 : b1 < 4294967296) (hb0 : b0 < 4294967296)
    (h00 : a0 * b0 = p00) (h10 : a1 * b0 = p10) (h01 : a0 * b1 = p01) (h11 : a1 * b1 = p11) :
    (a1 * 4294967296 + a0) * (b1 * 4294967296 + b0) = p11 * 18446744073709551616 + (p10 + p01) * 4294967296 + p00
    ∧ p00 ≤ 18446744065119617025 ∧ p10 ≤ 18446744065119617025 ∧ p01 ≤ 18446744065119617025 ∧ p11 ≤ 18446744065119617025 := by
  have q : ∀ {x y : Nat}, x < 4294967296 → y < 4294967296 → x * y ≤ 18446744065119617025 := fun {x y} hx hy =>
    Nat.le_trans (Nat.mul_le_mul (Nat.le_of_lt_succ hx) (Nat.le_of_lt_succ hy)) (by decide)
  refine ⟨?_, h00 ▸ q ha0 hb0, h10 ▸ q ha1 hb0, h01 ▸ q ha0 hb1, h11 ▸ q ha1 hb1⟩
  subst h00 h10 h01 h11
  rw [Nat.add_mul, Nat.mul_add, Nat.mul_add]
  have e1 : a1 * 4294967296 * (b1 * 4294967296) = a1 * b1 * 18446744073709551616 := by
    rw [Nat.mul_assoc, Nat.mul_left_comm 4294967296 b1, ← Nat.mul_assoc, ← Nat.mul_assoc]
  have e2 : a1 * 4294967296 * b0 = a1 * b0 * 4294967296 := Nat.mul_right_comm _ _ _
  have e3 : a0 * (b1 * 4294967296) = a0 * b1 * 4294967296 := (Nat.mul_assoc _ _ _).symm
  omega

theorem rest64 (h : Nat) : h * 18446744073709551616 % pr = h % pr * 8 % pr := by
  unfold pr
  omega

theorem modW_way (h l : Nat) : (h % pr * 8 % pr + l % pr) % pr = modW h l := by
  unfold modW pr
  omega

end Go.Proofs.Wm
end
section
/- The contracts of wide. -/
namespace Go.Proofs.Ythncmjimfkbofaa
open Go.RowKit Go.Proofs.Wm

/-- One number. -/
def n64 (n : Nat) : Ending := .returned (.int .u64 (n : Int))

theorem times_val {x y : Int} {m n k : Nat} (hx : x = m) (hy : y = n) (hm : m < 18446744073709551616) (hn : n < 18446744073709551616) (hk : k = m % 4294967296 * (n % 4294967296)) :
    Ending.returned (.int .u64 (IntKind.u64.wrap (bits BinOp.and IntKind.u64 x 4294967295 * bits BinOp.and IntKind.u64 y 4294967295))) = n64 k := by
  subst hx hy hk
  rw [and_low32 _ (by omega) (by omega), and_low32 _ (by omega) (by omega), IntKind.wrap_u64]
  have h := prod_bound ((m : Int) % 4294967296) ((n : Int) % 4294967296) (by omega) (by omega) (by omega) (by omega)
  rw [Int.emod_eq_of_lt h.1 (by omega)]
  unfold n64
  rw [Int.natCast_mul, Int.natCast_emod, Int.natCast_emod]
  rfl

theorem times_any (s t : Nat) (hs : s = 0 ∨ s = 32) (ht : t = 0 ∨ t = 32) (a b : Nat) (ha : a < 18446744073709551616) (hb : b < 18446744073709551616) (A B : Addr) (w : World)
    (cA : w.cell? A = some (.int .u64 a)) (cB : w.cell? B = some (.int .u64 b)) :
    Calls Try.prog 95 #[.int .u64 s, .int .u64 t, .pointer (some A), .pointer (some B)] w fun e w' => e = n64 ((a / 2 ^ s % 4294967296) * (b / 2 ^ t % 4294967296)) ∧ w = w' := by
  have da : ((a : Int) / 4294967296 = ((a / 4294967296 : Nat) : Int)) := rfl
  have db : ((b : Int) / 4294967296 = ((b / 4294967296 : Nat) : Int)) := rfl
  have DA := Lib.hid da
  have DB := Lib.hid db
  clear da db
  rcases hs with rfl | rfl
  all_goals rcases ht with rfl | rfl
  all_goals
    go_enter Try.func95, Try.ntmps95
    go_wp2
    go_ret
    refine ⟨?_, rfl⟩
  · exact times_val rfl rfl ha hb (by simp)
  · exact times_val rfl DB.out ha (by omega) (by simp)
  · exact times_val DA.out rfl (by omega) hb (by simp)
  · exact times_val DA.out DB.out (by omega) (by omega) (by simp)

theorem sum_take (xs : List Nat) (k : Nat) (hk : k < xs.length) : (xs.take (k + 1)).sum = (xs.take k).sum + xs.getD k 0 := by
  rw [List.take_add_one, List.sum_append, List.getD_eq_getElem?_getD]
  simp [hk]
theorem sum_take_le (xs : List Nat) (k : Nat) : (xs.take k).sum ≤ xs.sum := by
  have h : xs.sum = (xs.take k).sum + (xs.drop k).sum := by rw [← List.sum_append, List.take_append_drop]
  omega

theorem sum_any (b off : Nat) (xs : List Nat) (cap : Nat) (w : World) (hlen : xs.length ≤ maxLen) (hsum : xs.sum < 18446744073709551616)
    (hc : ∀ j, j < xs.length → w.cell? ⟨b, off + j, none⟩ = some (.int .u64 (xs.getD j 0 : Nat))) :
    Calls Try.prog 79 #[.slice (some ⟨b, off, none⟩) xs.length cap] w fun e w' => e = n64 xs.sum ∧ w = w' := by
  unfold maxLen at hlen
  have HC := Lib.hid hc
  have HS := Lib.hid hsum
  clear hc hsum
  go_enter Try.func79, Try.ntmps79
  go_wp2
  go_loop [3, 8] (fun n i => ∃ k : Nat, k ≤ xs.length ∧ i = .int .i64 k ∧ n = .int .u64 ((xs.take k).sum : Nat)) (fun _ i => xs.length - (intOf i).toNat)
  case atStart => exact ⟨0, by omega, rfl, rfl⟩
  case round =>
    obtain ⟨k, hk, rfl, rfl⟩ := hrel
    by_cases hlt : k < xs.length
    · have hcell : w.cell? ⟨b, off + k, none⟩ = some (.int .u64 (xs.getD k 0 : Nat)) := HC.out k hlt
      have h1 := sum_take xs k hlt
      have h2 := sum_take_le xs (k + 1)
      obtain ⟨d, hd⟩ : ∃ d, xs.getD k 0 = d := ⟨_, rfl⟩
      obtain ⟨g, hg⟩ : ∃ g, (xs.take k).sum = g := ⟨_, rfl⟩
      rw [hd] at hcell h1
      rw [hg] at h1
      rw [h1] at h2
      have h3 : g + d < 18446744073709551616 := Nat.lt_of_le_of_lt h2 HS.out
      have H1 := Lib.hid h1
      rw [hg]
      clear h1 h2 hd hg
      go_wp2_with fail
      go_round
      case rel =>
        refine ⟨k + 1, by omega, by go_num, ?_⟩
        rw [H1.out]
        go_num
      case measure => simp [intOf]; omega
    · have hke : k = xs.length := by omega
      have HK := Lib.hid hke
      clear hke
      go_wp2
      go_ret
      refine ⟨?_, rfl⟩
      have e := HK.out
      subst e
      rw [List.take_length]
      rfl

/-- A new row of numbers. -/
theorem row_cells (w : World) (t : TypeId) (vs : Array Value) (xs : List Nat) (hv : vs = (xs.map fun x : Nat => Value.int .u64 (x : Int)).toArray) :
    ∀ j, j < xs.length → (w.alloc (.cells vs t)).cell? ⟨w.heap.size, 0 + j, none⟩ = some (.int .u64 (xs.getD j 0 : Nat)) := by
  intro j hj
  subst hv
  rw [World.cell?_alloc_at _ _ _ _ rfl]
  simp [hj]

theorem below_rowW (w : World) (o : Obj) : Below w.heap.size w (w.alloc o) := (Below.refl _ w).alloc (Nat.le_refl _) _

set_option maxRecDepth 100000 in
theorem addMod_any (a b : Nat) (ha : a < 18446744073709551616) (hb : b < 18446744073709551616) (w : World) :
    Calls Try.prog 66 #[.int .u64 a, .int .u64 b] w fun e w' => e = n64 (addM a b) ∧ Below w.heap.size w w' := by
  have hs := fun W (hW : W = w.alloc (.cells #[.int .u64 ((a % 2305843009213693951 : Nat) : Int), .int .u64 ((b % 2305843009213693951 : Nat) : Int)] 22)) =>
    sum_any w.heap.size 0 [a % 2305843009213693951, b % 2305843009213693951] 2 W (by simp [maxLen]) (by simp; omega) (by rw [hW]; exact row_cells w _ _ _ rfl)
  have HS := Lib.hid hs
  clear hs
  go_enter Try.func66, Try.ntmps66
  go_wp2_with (go_at_call 79; refine (HS.out _ rfl).mono ?_; rintro e wa ⟨rfl, rfl⟩; dsimp only [n64])
  go_ret
  refine ⟨congrArg (fun z => Ending.returned (.int .u64 z)) ?_, below_rowW _ _⟩
  unfold addM pr
  omega

set_option maxRecDepth 100000 in
theorem mod_any (a b : Nat) (ha : a < 18446744073709551616) (hb : b < 18446744073709551616) (w : World) :
    Calls Try.prog 80 #[.int .u64 a, .int .u64 b] w fun e w' => e = n64 (modW a b) ∧ Below w.heap.size w w' := by
  have hs := addMod_any (a % 2305843009213693951 * 8) b (by omega) hb w
  have HS := Lib.hid hs
  clear hs
  go_enter Try.func80, Try.ntmps80
  go_wp2_with (go_at_call 66; refine HS.out.mono ?_; rintro e wa ⟨rfl, hbl⟩; dsimp only [n64])
  go_ret
  refine ⟨congrArg (fun z : Nat => Ending.returned (.int .u64 (z : Int))) ?_, hbl⟩
  unfold addM modW pr
  omega

theorem split32 (p : Nat) (h : p < 18446744073709551616) : ∃ u l : Nat, p = u * 4294967296 + l ∧ l < 4294967296 ∧ u < 4294967296 ∧ bits BinOp.and .u64 (p : Int) 4294967295 = (l : Int) ∧ (p : Int) / 4294967296 = (u : Int) :=
  ⟨p / 4294967296, p % 4294967296, by omega, by omega, by omega, and_low32 _ (by omega) (by omega), rfl⟩

theorem or_halves (m l um lm : Nat) (hm : m = um * 4294967296 + lm) (hl : l < 4294967296) (hlm : lm < 4294967296) :
    bits BinOp.or .u64 (IntKind.u64.wrap ((m : Int) * 4294967296)) (l : Int) = ((lm * 4294967296 + l : Nat) : Int) := by
  have e : IntKind.u64.wrap ((m : Int) * 4294967296) = ((lm * 4294967296 : Nat) : Int) := by rw [IntKind.wrap_u64]; omega
  rw [e, bits_or_u64_nat _ _ (by omega) (by omega)]
  have := Nat.shiftLeft_add_eq_or_of_lt (i := 32) (b := l) hl lm
  rw [Nat.shiftLeft_eq] at this
  exact congrArg _ this.symm

theorem sum3 (W : World) (x y z : Nat) (h : x + y + z < 18446744073709551616) :
    Calls Try.prog 79 #[.slice (some ⟨W.heap.size, 0, none⟩) 3 3] (W.alloc (.cells #[.int .u64 x, .int .u64 y, .int .u64 z] 22)) fun e w' => e = n64 (x + y + z) ∧ W.alloc (.cells #[.int .u64 x, .int .u64 y, .int .u64 z] 22) = w' := by
  have hh := sum_any W.heap.size 0 [x, y, z] 3 _ (by simp [maxLen]) (by simp; omega) (row_cells W 22 _ _ rfl)
  rw [show [x, y, z].sum = x + y + z by simp; omega] at hh
  exact hh
theorem sum4 (W : World) (B : Nat) (hB : B = W.heap.size) (x y z t : Nat) (h : x + y + z + t < 18446744073709551616) :
    Calls Try.prog 79 #[.slice (some ⟨B, 0, none⟩) 4 4] (W.alloc (.cells #[.int .u64 x, .int .u64 y, .int .u64 z, .int .u64 t] 22)) fun e w' => e = n64 (x + y + z + t) ∧ W.alloc (.cells #[.int .u64 x, .int .u64 y, .int .u64 z, .int .u64 t] 22) = w' := by
  subst hB
  have hh := sum_any W.heap.size 0 [x, y, z, t] 4 _ (by simp [maxLen]) (by simp; omega) (row_cells W 22 _ _ rfl)
  rw [show [x, y, z, t].sum = x + y + z + t by simp; omega] at hh
  exact hh

set_option maxRecDepth 100000 in
set_option maxHeartbeats 1000000 in
theorem mul_any (a b : Nat) (ha : a < 18446744073709551616) (hb : b < 18446744073709551616) (w : World) :
    Calls Try.prog 81 #[.int .u64 a, .int .u64 b] w fun e w' => e = .returned (.tuple #[.int .u64 (mulHi a b : Nat), .int .u64 (mulLo a b : Nat)]) ∧ Below w.heap.size w w' := by
  obtain ⟨a1, a0, ea, la0, la1, -, -⟩ := split32 a ha
  obtain ⟨b1, b0, eb, lb0, lb1, -, -⟩ := split32 b hb
  have hd : a / 2 ^ 0 % 4294967296 = a0 ∧ a / 2 ^ 32 % 4294967296 = a1 := by simp; omega
  have hd' : b / 2 ^ 0 % 4294967296 = b0 ∧ b / 2 ^ 32 % 4294967296 = b1 := by simp; omega
  obtain ⟨W1, hW1⟩ : ∃ W, W = (w.alloc (Obj.cells #[Value.int IntKind.u64 ↑a] 22)).alloc (Obj.cells #[Value.int IntKind.u64 ↑b] 22) := ⟨_, rfl⟩
  have cA : W1.cell? ⟨w.heap.size, 0, none⟩ = some (.int .u64 a) := by rw [hW1]; go_simp
  have cB : W1.cell? ⟨w.heap.size + 1, 0, none⟩ = some (.int .u64 b) := by rw [hW1]; go_simp
  have t00 : Calls Try.prog 95 #[.int .u64 0, .int .u64 0, .pointer (some ⟨w.heap.size, 0, none⟩), .pointer (some ⟨w.heap.size + 1, 0, none⟩)] W1 fun e w' => e = n64 ((a / 2 ^ 0 % 4294967296) * (b / 2 ^ 0 % 4294967296)) ∧ W1 = w' := times_any 0 0 (by omega) (by omega) a b ha hb _ _ W1 cA cB
  have t11 : Calls Try.prog 95 #[.int .u64 32, .int .u64 32, .pointer (some ⟨w.heap.size, 0, none⟩), .pointer (some ⟨w.heap.size + 1, 0, none⟩)] W1 fun e w' => e = n64 ((a / 2 ^ 32 % 4294967296) * (b / 2 ^ 32 % 4294967296)) ∧ W1 = w' := times_any 32 32 (by omega) (by omega) a b ha hb _ _ W1 cA cB
  have t10 : Calls Try.prog 95 #[.int .u64 32, .int .u64 0, .pointer (some ⟨w.heap.size, 0, none⟩), .pointer (some ⟨w.heap.size + 1, 0, none⟩)] W1 fun e w' => e = n64 ((a / 2 ^ 32 % 4294967296) * (b / 2 ^ 0 % 4294967296)) ∧ W1 = w' := times_any 32 0 (by omega) (by omega) a b ha hb _ _ W1 cA cB
  have t01 : Calls Try.prog 95 #[.int .u64 0, .int .u64 32, .pointer (some ⟨w.heap.size, 0, none⟩), .pointer (some ⟨w.heap.size + 1, 0, none⟩)] W1 fun e w' => e = n64 ((a / 2 ^ 0 % 4294967296) * (b / 2 ^ 32 % 4294967296)) ∧ W1 = w' := times_any 0 32 (by omega) (by omega) a b ha hb _ _ W1 cA cB
  rw [hd.1, hd'.1] at t00
  rw [hd.2, hd'.2] at t11
  rw [hd.2, hd'.1] at t10
  rw [hd.1, hd'.2] at t01
  obtain ⟨p00, e00⟩ : ∃ p, a0 * b0 = p := ⟨_, rfl⟩
  obtain ⟨p11, e11⟩ : ∃ p, a1 * b1 = p := ⟨_, rfl⟩
  obtain ⟨p10, e10⟩ : ∃ p, a1 * b0 = p := ⟨_, rfl⟩
  obtain ⟨p01, e01⟩ : ∃ p, a0 * b1 = p := ⟨_, rfl⟩
  have hp := mul_halves la1 la0 lb1 lb0 e00 e10 e01 e11
  rw [← ea, ← eb] at hp
  rw [e00] at t00
  rw [e11] at t11
  rw [e10] at t10
  rw [e01] at t01
  obtain ⟨hab, g00, g10, g01, g11⟩ := hp
  obtain ⟨u00, l00, s00, b00, c00, d00, q00⟩ := split32 p00 (by omega)
  obtain ⟨u10, l10, s10, b10, c10, d10, q10⟩ := split32 p10 (by omega)
  obtain ⟨u01, l01, s01, b01, c01, d01, q01⟩ := split32 p01 (by omega)
  obtain ⟨m, hm⟩ : ∃ m, u00 + l10 + l01 = m := ⟨_, rfl⟩
  obtain ⟨um, lm, sm, bm, cm, -, qm⟩ := split32 m (by omega)
  have hlt := Nat.mul_lt_mul'' ha hb
  have hhi : mulHi a b = p11 + u10 + u01 + um := by unfold mulHi; omega
  have hlo : mulLo a b = lm * 4294967296 + l00 := by unfold mulLo; omega
  have hsm : p11 + u10 + u01 + um < 18446744073709551616 := by rw [← hhi]; exact mul_lt64 ha hb
  have hor := or_halves m l00 um lm sm b00 bm
  have hs3 := fun W => sum3 W u00 l10 l01 (by omega)
  have hs4 := fun W B hB => sum4 W B hB p11 u10 u01 um hsm
  rw [hm] at hs3
  rw [hhi, hlo]
  obtain ⟨hi, ehi⟩ : ∃ p, p11 + u10 + u01 + um = p := ⟨_, rfl⟩
  obtain ⟨lo, elo⟩ : ∃ p, lm * 4294967296 + l00 = p := ⟨_, rfl⟩
  rw [ehi] at hs4
  rw [elo] at hor
  rw [ehi, elo]
  have HW := Lib.hid hW1
  have T00 := Lib.hid t00
  have T11 := Lib.hid t11
  have T10 := Lib.hid t10
  have T01 := Lib.hid t01
  have S3 := Lib.hid hs3
  have S4 := Lib.hid hs4
  clear t00 t11 t10 t01 hs3 hs4 hd hd' cA cB ea eb e00 e11 e10 e01 hab s00 s10 s01 sm hlt hhi hlo hsm ehi elo hm hW1
  go_enter Try.func81, Try.ntmps81
  go_upto_region 2 with (fail)
  rw [← HW.out]
  go_upto_region 3 with (first
    | (go_at_call 95; (with_reducible refine T00.out.mono ?_); rintro e wa ⟨rfl, rfl⟩; dsimp only [n64])
    | (go_at_call 95; (with_reducible refine T11.out.mono ?_); rintro e wa ⟨rfl, rfl⟩; dsimp only [n64])
    | (go_at_call 95; (with_reducible refine T10.out.mono ?_); rintro e wa ⟨rfl, rfl⟩; dsimp only [n64])
    | (go_at_call 95; (with_reducible refine T01.out.mono ?_); rintro e wa ⟨rfl, rfl⟩; dsimp only [n64]))
  go_upto_region 4 with (first
    | (go_at_call 95; (with_reducible refine T00.out.mono ?_); rintro e wa ⟨rfl, rfl⟩; dsimp only [n64])
    | (go_at_call 95; (with_reducible refine T11.out.mono ?_); rintro e wa ⟨rfl, rfl⟩; dsimp only [n64])
    | (go_at_call 95; (with_reducible refine T10.out.mono ?_); rintro e wa ⟨rfl, rfl⟩; dsimp only [n64])
    | (go_at_call 95; (with_reducible refine T01.out.mono ?_); rintro e wa ⟨rfl, rfl⟩; dsimp only [n64]))
  go_upto_region 5 with (go_at_call 79; refine (S3.out _).mono ?_; rintro e wa ⟨rfl, rfl⟩; dsimp only [n64])
  go_wp2_with (go_at_call 79; refine (S4.out _ _ (by simp)).mono ?_; rintro e wa ⟨rfl, rfl⟩; dsimp only [n64])
  go_ret2
  refine ⟨rfl, ?_⟩
  rw [HW.out]
  exact ((((Below.refl _ w).alloc (Nat.le_refl _) _).alloc (by simp) _).alloc (by simp; omega) _).alloc (by simp; omega) _

set_option maxRecDepth 100000 in
theorem mulMod_any (a b : Nat) (ha : a < 18446744073709551616) (hb : b < 18446744073709551616) (w : World) :
    Calls Try.prog 67 #[.int .u64 a, .int .u64 b] w fun e w' => e = n64 (mulM a b) ∧ Below w.heap.size w w' := by
  have h1 := mul_any a b ha hb w
  have h2 := fun W => mod_any (mulHi a b) (mulLo a b) (mul_lt64 ha hb) (mulLo_lt a b) W
  rw [modW_mul] at h2
  have H1 := Lib.hid h1
  have H2 := Lib.hid h2
  clear h1 h2
  go_enter Try.func67, Try.ntmps67
  go_wp2_with (first
    | (go_at_call 81; refine H1.out.mono ?_; rintro e wa ⟨rfl, hb1⟩)
    | (go_at_call 80; refine (H2.out _).mono ?_; rintro e wb ⟨rfl, hb2⟩; dsimp only [n64]))
  go_ret
  exact ⟨rfl, hb1.trans (hb2.mono hb1.size)⟩

end Go.Proofs.Ythncmjimfkbofaa
end
section
/- The contracts of the document's own wide (skylightref03). -/
namespace Go.Proofs.Ythncmjimfkbofaa
open Go.RowKit Go.Proofs.Wm

theorem rAddMod_any (a b : Nat) (ha : a < 18446744073709551616) (hb : b < 18446744073709551616) (w : World) :
    Calls Try.prog 71 #[.int .u64 a, .int .u64 b] w fun e w' => e = n64 (addM a b) ∧ w = w' := by
  go_enter Try.func71, Try.ntmps71
  go_wp2
  go_ret
  refine ⟨congrArg (fun z => Ending.returned (.int .u64 z)) ?_, rfl⟩
  unfold addM pr
  omega

theorem double_any (n b : Nat) (hn : n < 2305843009213693951) (hb : b < 2) (w : World) :
    Calls Try.prog 101 #[.int .u64 n, .int .u64 b] w fun e w' => e = n64 ((2 * n + b) % 2305843009213693951) ∧ w = w' := by
  go_enter Try.func101, Try.ntmps101
  go_wp2
  go_ret
  exact ⟨rfl, rfl⟩

theorem two64 {x y : Int} {h l : Nat} (hx : x = h) (hy : y = l) : Ending.returned (.tuple #[.int .u64 x, .int .u64 y]) = .returned (.tuple #[.int .u64 (h : Nat), .int .u64 (l : Nat)]) := by rw [hx, hy]

theorem rMul_any (a b : Nat) (ha : a < 18446744073709551616) (hb : b < 18446744073709551616) (w : World) :
    Calls Try.prog 92 #[.int .u64 a, .int .u64 b] w fun e w' => e = .returned (.tuple #[.int .u64 (mulHi a b : Nat), .int .u64 (mulLo a b : Nat)]) ∧ w = w' := by
  obtain ⟨a1, a0, ea, la0, la1, -, -⟩ := split32 a ha
  obtain ⟨b1, b0, eb, lb0, lb1, -, -⟩ := split32 b hb
  obtain ⟨p00, e00⟩ : ∃ p, a0 * b0 = p := ⟨_, rfl⟩
  obtain ⟨p11, e11⟩ : ∃ p, a1 * b1 = p := ⟨_, rfl⟩
  obtain ⟨p10, e10⟩ : ∃ p, a1 * b0 = p := ⟨_, rfl⟩
  obtain ⟨p01, e01⟩ : ∃ p, a0 * b1 = p := ⟨_, rfl⟩
  have hp := mul_halves la1 la0 lb1 lb0 e00 e10 e01 e11
  rw [← ea, ← eb] at hp
  obtain ⟨hab, g00, g10, g01, g11⟩ := hp
  have ka1 : (a : Int) / 4294967296 = (a1 : Int) := by omega
  have ka0 : (a : Int) % 4294967296 = (a0 : Int) := by omega
  have kb1 : (b : Int) / 4294967296 = (b1 : Int) := by omega
  have kb0 : (b : Int) % 4294967296 = (b0 : Int) := by omega
  have f00 : (a0 : Int) * (b0 : Int) = (p00 : Int) := by rw [← e00]; rfl
  have f11 : (a1 : Int) * (b1 : Int) = (p11 : Int) := by rw [← e11]; rfl
  have f10 : (a1 : Int) * (b0 : Int) = (p10 : Int) := by rw [← e10]; rfl
  have f01 : (a0 : Int) * (b1 : Int) = (p01 : Int) := by rw [← e01]; rfl
  have hlt := Nat.mul_lt_mul'' ha hb
  rw [hab] at hlt
  have HHI := Lib.hid (show mulHi a b = (p11 * 18446744073709551616 + (p10 + p01) * 4294967296 + p00) / 18446744073709551616 by unfold mulHi; rw [hab])
  have HLO := Lib.hid (show mulLo a b = (p11 * 18446744073709551616 + (p10 + p01) * 4294967296 + p00) % 18446744073709551616 by unfold mulLo; rw [hab])
  clear ea eb e00 e11 e10 e01 hab ha hb
  go_enter Try.func92, Try.ntmps92
  go_wp2
  go_ret2
  refine ⟨two64 ?_ ?_, rfl⟩
  · rw [HHI.out]; omega
  · rw [HLO.out]; omega

theorem half_bit (x k : Nat) : 2 * (x / 2 ^ (k + 1)) + x / 2 ^ k % 2 = x / 2 ^ k := by
  rw [Nat.pow_succ, ← Nat.div_div_eq_div_mul]
  omega

theorem dbl_step1 (x k : Nat) : (2 * (x / 2 ^ (k + 1) % 2305843009213693951) + x / 2 ^ k % 2) % 2305843009213693951 = x / 2 ^ k % 2305843009213693951 := by
  have h := half_bit x k
  generalize x / 2 ^ (k + 1) = y at *
  generalize x / 2 ^ k = z at *
  omega

theorem dbl_step2 (h x k : Nat) (hk : k < 64) : (2 * ((h * 2 ^ (64 - (k + 1)) + x / 2 ^ (k + 1)) % 2305843009213693951) + x / 2 ^ k % 2) % 2305843009213693951 = (h * 2 ^ (64 - k) + x / 2 ^ k) % 2305843009213693951 := by
  have e := half_bit x k
  have e2 : h * 2 ^ (64 - k) = 2 * (h * 2 ^ (64 - (k + 1))) := by
    rw [show 64 - k = 64 - (k + 1) + 1 by omega, Nat.pow_succ, ← Nat.mul_assoc, Nat.mul_comm]
  rw [e2]
  generalize x / 2 ^ (k + 1) = y at *
  generalize x / 2 ^ k = z at *
  generalize h * 2 ^ (64 - (k + 1)) = t at *
  omega

set_option maxHeartbeats 1000000 in
theorem rMod_any (a b : Nat) (ha : a < 18446744073709551616) (hb : b < 18446744073709551616) (w : World) :
    Calls Try.prog 93 #[.int .u64 a, .int .u64 b] w fun e w' => e = n64 (modW a b) ∧ w = w' := by
  have z0 : (0 : Int) = ((a / 2 ^ 64 % 2305843009213693951 : Nat) : Int) := by rw [Nat.div_eq_of_lt (by simpa using ha)]; rfl
  have z1 : (a : Int) % 2305843009213693951 = (((a * 2 ^ (64 - 64) + b / 2 ^ 64) % 2305843009213693951 : Nat) : Int) := by rw [Nat.div_eq_of_lt (show b < 2 ^ 64 by simpa using hb), Nat.sub_self, Nat.pow_zero, Nat.mul_one, Nat.add_zero]; rfl
  have Z0 := Lib.hid z0
  have Z1 := Lib.hid z1
  clear z0 z1
  go_enter Try.func93, Try.ntmps93
  go_wp2
  go_loop [5, 6] (fun n i => ∃ k : Nat, k ≤ 64 ∧ i = .int .i64 ((k : Int) - 1) ∧ n = .int .u64 ((a / 2 ^ k % 2305843009213693951 : Nat) : Int)) (fun _ i => (intOf i + 1).toNat)
  case atStart => exact ⟨64, by omega, rfl, by rw [← Z0.out]⟩
  case round =>
    obtain ⟨k, hk, rfl, rfl⟩ := hrel
    rcases k with _ | k
    · go_wp2
      go_loop [5, 7] (fun n i => ∃ k : Nat, k ≤ 64 ∧ i = .int .i64 ((k : Int) - 1) ∧ n = .int .u64 (((a * 2 ^ (64 - k) + b / 2 ^ k) % 2305843009213693951 : Nat) : Int)) (fun _ i => (intOf i + 1).toNat)
      case atStart => exact ⟨64, by omega, rfl, by rw [Z1.out]⟩
      case round =>
        obtain ⟨k, hk, rfl, rfl⟩ := hrel
        rcases k with _ | k
        · go_wp2
          go_ret
          refine ⟨congrArg (fun z => Ending.returned (.int .u64 z)) ?_, rfl⟩
          unfold modW pr
          omega
        · rw [show (((k + 1 : Nat) : Int) - 1) = (k : Int) by omega]
          have hst := dbl_step2 a b k (by omega)
          have hlt := Nat.mod_lt (a * 2 ^ (64 - (k + 1)) + b / 2 ^ (k + 1)) (show 2305843009213693951 > 0 by decide)
          obtain ⟨y, hy⟩ : ∃ y, (a * 2 ^ (64 - (k + 1)) + b / 2 ^ (k + 1)) % 2305843009213693951 = y := ⟨_, rfl⟩
          rw [hy] at hst hlt ⊢
          have hq : (b : Int) / 2 ^ k = ((b / 2 ^ k : Nat) : Int) := by simp
          obtain ⟨z, hz⟩ : ∃ z, b / 2 ^ k = z := ⟨_, rfl⟩
          have hzl : z < 18446744073709551616 := by rw [← hz]; exact Nat.lt_of_le_of_lt (Nat.div_le_self _ _) hb
          rw [hz] at hq hst
          have hd := double_any y (z % 2) hlt (Nat.mod_lt _ (by decide)) w
          rw [hst] at hd
          have HZ := Lib.hid hz
          have HD := Lib.hid hd
          clear hz hd hst hy
          go_wp2_with (go_at_call 101; refine HD.out.mono ?_; rintro e wa ⟨rfl, rfl⟩; dsimp only [n64])
          refine ⟨⟨k, by omega, rfl, by rw [HZ.out]⟩, ?_⟩
          simp only [intOf]
          omega
    · rw [show (((k + 1 : Nat) : Int) - 1) = (k : Int) by omega]
      have hst := dbl_step1 a k
      have hlt := Nat.mod_lt (a / 2 ^ (k + 1)) (show 2305843009213693951 > 0 by decide)
      obtain ⟨y, hy⟩ : ∃ y, a / 2 ^ (k + 1) % 2305843009213693951 = y := ⟨_, rfl⟩
      rw [hy] at hst hlt ⊢
      have hq : (a : Int) / 2 ^ k = ((a / 2 ^ k : Nat) : Int) := by simp
      obtain ⟨z, hz⟩ : ∃ z, a / 2 ^ k = z := ⟨_, rfl⟩
      have hzl : z < 18446744073709551616 := by rw [← hz]; exact Nat.lt_of_le_of_lt (Nat.div_le_self _ _) ha
      rw [hz] at hq hst
      have hd := double_any y (z % 2) hlt (Nat.mod_lt _ (by decide)) w
      rw [hst] at hd
      have HZ := Lib.hid hz
      have HD := Lib.hid hd
      clear hz hd hst hy
      go_wp2_with (go_at_call 101; refine HD.out.mono ?_; rintro e wa ⟨rfl, rfl⟩; dsimp only [n64])
      refine ⟨⟨k, by omega, rfl, by rw [HZ.out]⟩, ?_⟩
      simp only [intOf]
      omega

theorem rMulMod_any (a b : Nat) (ha : a < 18446744073709551616) (hb : b < 18446744073709551616) (w : World) :
    Calls Try.prog 72 #[.int .u64 a, .int .u64 b] w fun e w' => e = n64 (mulM a b) ∧ w = w' := by
  have h1 := rMul_any a b ha hb w
  have h2 := rMod_any (mulHi a b) (mulLo a b) (mul_lt64 ha hb) (mulLo_lt a b) w
  rw [modW_mul] at h2
  have H1 := Lib.hid h1
  have H2 := Lib.hid h2
  clear h1 h2
  go_enter Try.func72, Try.ntmps72
  go_wp2_with (first
    | (go_at_call 92; refine H1.out.mono ?_; rintro e wa ⟨rfl, rfl⟩)
    | (go_at_call 93; refine H2.out.mono ?_; rintro e wb ⟨rfl, rfl⟩; dsimp only [n64]))
  go_ret
  exact ⟨rfl, rfl⟩

end Go.Proofs.Ythncmjimfkbofaa
end
