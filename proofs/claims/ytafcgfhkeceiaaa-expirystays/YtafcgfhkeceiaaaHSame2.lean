/- The contract of hist.Same. -/
import Derived.Test.YtafcgfhkeceiaaaHSame
namespace Go.Proofs.Ytafcgfhkeceiaaa
open Go.RowKit Go.Shelf Go.Proofs.Rw Go.Proofs.Lh Go.Proofs.Rn

/-- Whether two histograms are the same. -/
def sameB (ka ga kb gb : Int) (la lb : Lv) : Bool := decide (ka = kb ∧ ga = gb ∧ la = lb)

theorem each_any (k g k2 g2 : Int) (ls lb : Lv) (hl : ls.length ≤ 1000000) (hlb : ∀ i, (lev lb i).length ≤ 10000000) (w : World) (A A2 : Option Addr) (c c2 : Nat) (h : Levs w w.heap.size (.slice A ls.length c) ls) (h2 : Levs w w.heap.size (.slice A2 lb.length c2) lb) :
    Calls Try.prog 27 #[hv k g (.slice A ls.length c), .func (.func 28) #[hv k2 g2 (.slice A2 lb.length c2)] #[]] w fun e w' => e = .returned (.bool (allSame ls lb)) ∧ Below w.heap.size w w' :=
  (callsIn_wide (n := 3)).1 (eachR_in 3 (by omega) k g k2 g2 ls lb hl hlb w A A2 c c2 h h2)

set_option maxHeartbeats 1000000 in
theorem hsame_any (ka ga kb gb : Int) (la lb : Lv) (hl : la.length ≤ 1000000) (hlb : ∀ i, (lev lb i).length ≤ 10000000) (w : World) (A A2 : Option Addr) (c c2 : Nat) (h : Levs w w.heap.size (.slice A la.length c) la) (h2 : Levs w w.heap.size (.slice A2 lb.length c2) lb) :
    Calls Try.prog 17 #[hv ka ga (.slice A la.length c), hv kb gb (.slice A2 lb.length c2)] w fun e w' => e = .returned (.bool (sameB ka ga kb gb la lb)) ∧ Below w.heap.size w w' := by
  have hb0 : Below w.heap.size w ((w.alloc (.cells #[.int .i64 ka, .int .i64 ga, .slice A la.length c] 31)).alloc (.cells #[.int .i64 kb, .int .i64 gb, .slice A2 lb.length c2] 31)) := ((Below.refl _ w).alloc (Nat.le_refl _) _).alloc (by simp) _
  have he := each_any ka ga kb gb la lb hl hlb _ A A2 c c2 (h.grow hb0) (h2.grow hb0)
  have HB0 := Lib.hid hb0
  have HE := Lib.hid he
  clear he h h2 hb0
  by_cases h1 : ka = kb
  · by_cases h2 : ga = gb
    · by_cases h3 : la.length = lb.length
      · subst h1 h2
        have hs : sameB ka ga ka ga la lb = allSame la lb := by
          rw [allSame_eq h3]
          simp [sameB]
        rw [hs]
        have hz : ((la.length : Int) == (lb.length : Int)) = true := by rw [h3]; simp
        clear hs h3
        go_enter Try.func17, Try.ntmps17
        go_wp2_with (go_at_call 27; refine HE.out.mono ?_; rintro e w' ⟨rfl, hb⟩)
        go_ret
        exact ⟨rfl, HB0.out.trans (hb.mono (by simp; omega))⟩
      · have hs : sameB ka ga kb gb la lb = false := by
          simp only [sameB, decide_eq_false_iff_not]
          rintro ⟨_, _, e⟩
          exact h3 (by rw [e])
        rw [hs]
        subst h1 h2
        have hz : ((la.length : Int) == (lb.length : Int)) = false := by rw [beq_eq_false_iff_ne]; omega
        clear hs h3
        go_enter Try.func17, Try.ntmps17
        go_wp2
        go_ret
        exact ⟨rfl, HB0.out⟩
    · have hs : sameB ka ga kb gb la lb = false := by simp [sameB, h2]
      rw [hs]
      subst h1
      have hz : (ga == gb) = false := by rw [beq_eq_false_iff_ne]; exact h2
      clear hs h2
      go_enter Try.func17, Try.ntmps17
      go_wp2
      go_ret
      exact ⟨rfl, HB0.out⟩
  · have hs : sameB ka ga kb gb la lb = false := by simp [sameB, h1]
    rw [hs]
    have hz : (ka != kb) = true := by simpa using h1
    clear hs
    go_enter Try.func17, Try.ntmps17
    go_wp2
    go_ret
    exact ⟨rfl, HB0.out⟩

end Go.Proofs.Ytafcgfhkeceiaaa
