/- The law's own first look: a text there and back. -/
import Derived.BigQuiet
import Derived.Deep.DeepCutAuto
import Derived.Deep.CutBlock
import Derived.Deep.RegionWith
import Derived.Deep.RegionHeld3
import Derived.StillTailTactics
import Derived.Lib.SlBytesConst
import Derived.Test.YtemplngmkpldeaaFacts
import Derived.Test.YtemplngmkpldeaaFacts2
import Derived.Test.YtemplngmkpldeaaReader
import Derived.Test.YtemplngmkpldeaaCodecRef
namespace Go.Proofs.Ytemplngmkpldeaa
open Go.RowKit Go.Proofs.Vm Go.Proofs.Rf

theorem ct1 : vtext [97, 98] = [2, 97, 98] := by
  unfold vtext
  rw [show ([97, 98] : List Int).length = 2 from rfl, vput_lt (by omega)]; rfl
theorem ct2 : rText [2, 97, 98] 0 2 = ([], 0, [97, 98]) := by decide
theorem ct3 : vfix 258 = [0, 0, 0, 0, 0, 0, 1, 2] := by decide
theorem ct4 : vput 300 = [172, 2] := by rw [vput_ge (by omega), vput_lt (by omega)]; rfl

/-- As a string, in any world that has grown. -/
theorem own_str {w : World} {base : Nat} {v : Value} {bs : List Int} (h : w.ownsRow base 5 1 v bs.length (bs.map (Value.int .u8))) (hb : ∀ x ∈ bs, 0 ≤ x ∧ x ≤ 255) : (convert 23 9 v).run Try.prog w = .ok (.string (strOf bs)) w := run_str (Holds.of_own h) hb

theorem own_ne {v : Value} {lo hi rb : Nat} (h : ∀ k, v.ownBlock = some k → lo ≤ k ∧ k < hi) (hrb : hi ≤ rb) : v.ownBlock = none ∨ v.ownBlock ≠ some rb := by
  refine .inr fun e => ?_
  have := h rb e
  omega

theorem lit_beq (bs : List Int) (cs : List UInt8) (h : (bs.map fun x => UInt8.ofNat x.toNat) = cs) : ((strOf bs).toList == cs) = true := by
  subst h
  rw [ByteArray.toList_eq]
  simp [strOf]

set_option maxHeartbeats 1000000 in
theorem awake_any (w : World) : Calls Try.prog 8 #[] w fun e w' => e = .returned (.bool true) ∧ Below w.heap.size w w' := by
  have kc := fun (w : World) (C : Array Value) (n c : Nat) => Lib.run_convert_bytes_const (P := Try.prog) w 23 5 C n c Try.underlying23 Try.underlying5
  have HT := Lib.hid (fun (w : World) => text_own ((Holds.lit w (fr := (2, 3)) w.heap.size rfl [97, 98] #[.int .u8 97, .int .u8 98] 2 rfl rfl (by decide)).mono (by simp)) (by simp))
  have s1 : ((strOf [2, 97, 98]).toList == ([2, 97, 98] : List UInt8)) = true := lit_beq _ _ rfl
  have s2 : ((strOf [97, 98]).toList == ([97, 98] : List UInt8)) = true := lit_beq _ _ rfl
  have s3 : ((strOf [0, 0, 0, 0, 0, 0, 1, 2]).toList == ([0, 0, 0, 0, 0, 0, 1, 2] : List UInt8)) = true := lit_beq _ _ rfl
  have s4 : ((strOf [172, 2]).toList == ([172, 2] : List UInt8)) = true := lit_beq _ _ rfl
  have HF := Lib.hid (fun w => fixed_own 258 (by omega) w)
  have HN := Lib.hid (fun w => num_own 300 (by omega) w)
  rw [ct3] at HF
  rw [ct4] at HN
  go_enter Try.func8, Try.ntmps8
  go_wp2_with (first
    | (go_at_call 13; (with_reducible refine (HT.out _).mono ?_); rintro e w1 ⟨v1, rfl, h1, hb1⟩; rw [ct1] at h1; have H1 := Lib.hid h1; have HO1 := Lib.hid (fun k => h1.lt k); have HB1 := Lib.hid (((Below.refl w.heap.size w).alloc (Nat.le_refl _) _).trans (hb1.mono (by simp))); clear h1 hb1)
    | (go_at_call 15; (with_reducible refine (new_any (Holds.of_own H1.out) (by simp)).mono ?_); rintro e w2 ⟨rb, rfl, hrb, h2, hb2⟩; have H2 := Lib.hid h2; have HB2 := Lib.hid hb2; have HO2 := Lib.hid (ownsRow_below H1.out hb2); clear h2 hb2)
    | (go_at_call 20; (with_reducible refine (rtext_any H2.out (by simp) (by simp) 2 (by omega) (by omega)).mono ?_); rintro e w3 ⟨v3, rfl, h3, h4, h5⟩; rw [ct2] at h3 h4; have hk := HO2.out.kept h5 (own_ne HO1.out hrb); have r1 := own_str hk (by simp); have r3 := own_str h3 (by simp); have H3 := Lib.hid h3; have H4 := Lib.hid h4; have H5 := Lib.hid h5; clear h3 h4 h5 hk)
    | (go_at_call 25; (with_reducible refine (end_any H4.out).mono ?_); rintro e w4 ⟨rfl, rfl⟩; dsimp only [rEnd])
    | (go_at_call 11; refine (HF.out _).mono ?_; clear HF; rintro e w4 ⟨v4, rfl, h4, hb4⟩; have r4 := own_str h4 (by simp); have HB4 := Lib.hid hb4; clear h4 hb4)
    | (go_at_call 9; refine (HN.out _).mono ?_; clear HN; rintro e w5 ⟨v5, rfl, h5, hb5⟩; have r5 := own_str h5 (by simp); have HB5 := Lib.hid hb5; clear h5 hb5))
  go_ret
  exact ⟨rfl, thn (thn (thnG (thn HB1.out HB2.out) H5.out (Nat.le_trans HB1.out.size hrb)) HB4.out) HB5.out⟩

end Go.Proofs.Ytemplngmkpldeaa
