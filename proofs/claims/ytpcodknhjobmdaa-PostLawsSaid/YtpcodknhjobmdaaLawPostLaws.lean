/-
  'PostLaws' of fascinelaw08 is true at every input, and each argument reads behind the call as it did: the given statement, with no condition of its own.
-/
import Derived.Test.YtpcodknhjobmdaaRows
import Derived.Test.YtpcodknhjobmdaaPostH
import Derived.Test.YtpcodknhjobmdaaArgsI
import Derived.ProofKit
import Derived.OpenShut
import Derived.ShutString
import Derived.ChangeOld
import Derived.Below
import Derived.SizedLaws
namespace Go.Proofs.Ytpcodknhjobmdaa.postLaws
open Go.ChangeShapes Go.WideShapes Go.ChangeAt Go.RowKit
open Go.ChangeMaps (open_string shut_string)
open Mem (light_of)
set_option linter.unusedVariables false

theorem own : ownKnob Try.prog.godebug = none := by kernel_rfl
theorem laidOut : laidOutB Try.prog = true := by kernel_rfl
theorem bytes_byte : Try.prog.bytesOf 5 = 1 := by kernel_rfl

theorem walk (a0 : Option Addr) (len0 cap0 : Nat) (ks0 : List Int) (a1 : Option Addr) (len1 cap1 : Nat) (ks1 : List Int) (a2 : Option Addr) (len2 cap2 : Nat) (ks2 : List Int) (w : World) (w0 : Mem.RdV w w.heap.size a0 len0 cap0 (ks0.map (Value.int .i64))) (y0 : ∀ k ∈ ks0, -9223372036854775808 ≤ k ∧ k ≤ 9223372036854775807) (z0 : cap0 ≤ 17592186043904) (w1 : Mem.RdV w w.heap.size a1 len1 cap1 (ks1.map (Value.int .i64))) (y1 : ∀ k ∈ ks1, -9223372036854775808 ≤ k ∧ k ≤ 9223372036854775807) (z1 : cap1 ≤ 17592186043904) (w2 : Mem.RdV w w.heap.size a2 len2 cap2 (ks2.map (Value.int .i64))) (y2 : ∀ k ∈ ks2, -9223372036854775808 ≤ k ∧ k ≤ 9223372036854775807) (z2 : cap2 ≤ 17592186043904) :
    Calls Try.prog 6 #[.slice a0 len0 cap0, .slice a1 len1 cap1, .slice a2 len2 cap2] w fun e w' => e = .returned (.bool true) ∧ Below w.heap.size w w' :=
  by
  exact postLaws_any a0 len0 cap0 ks0 a1 len1 cap1 ks1 a2 len2 cap2 ks2 w w0 w1 w2 (by omega) (by omega) (by omega)

set_option maxRecDepth 100000 in
theorem lifted (os : Os) (started : os.Started) (H : Type) (enc : TypeId × Value → H) :
    ReturnsInHanded {} Try.checked os 6 .any (Rows.postLawsSpec.pre6 enc Try.prog Try.f6 Rows.postLawsRow.domain false) (Rows.postLawsSpec.post enc Try.prog Try.f6 false true false false) := by
  refine returnsInHanded_of_change_sized (C := Try.checked) own started (by kernel_rfl) Try.func6
    (ChangeSpec.witness6 (enc := enc) (C := Try.checked) false ⟨#[], #[.slice none 0 0, .slice none 0 0, .slice none 0 0], []⟩ 8 (by kernel_rfl) (by kernel_rfl) (by kernel_rfl) (by kernel_rfl)) ?_
  intro W base args ds gs before hval0 hW hcnd hsz0 _
  have hval : ∀ (j : Nat) t v, Try.f6.params[j]? = some t → args[j]? = some v → Value.okWide Try.prog W .any base t v := hval0
  have hsz : (DataW.weightsEach Try.prog (Try.f6.params.toList ++ Rows.postLawsSpec.plain.varTypes Try.prog) (ds ++ gs)).all (· ≤ reachBytes) = true := hsz0
  have hW' := hW
  obtain ⟨p, q, hA0, hV, rfl, hfz, hnd⟩ := hW
  have hA : DataW.TrodAll enc Try.prog W 0 (fun _ => true) true Try.f6.params.toList args.toList ds p := hA0
  rw [Try.params6] at hA hval hsz
  obtain ⟨v0, vs0, d0, ds0, p0, q0, hargs, rfl, rfl, h0, r0⟩ := trodAll_cons hA
  obtain ⟨v1, vs1, d1, ds1, p1, q1, rfl, rfl, rfl, h1, r1⟩ := trodAll_cons r0
  obtain ⟨v2, vs2, d2, ds2, p2, q2, rfl, rfl, rfl, h2, r2⟩ := trodAll_cons r1
  obtain ⟨rfl, rfl, rfl⟩ := trodAll_nil r2
  obtain rfl : args = #[v0, v1, v2] := by cases args; simp_all
  obtain ⟨rfl, rfl⟩ := trodVars_none hV
  have k0 := h0
  have lt0 : ∀ x ∈ p0, x.block < W.heap.size := by obtain ⟨m, hm⟩ := k0; exact DataW.trod_lt m _ _ _ hm
  obtain ⟨a0, len0, cap0, ks0, rfl, w0, y0, z0⟩ := open_ints_sz (hval 0 22 v0 rfl rfl) h0 (light_of hsz (j := 0) rfl rfl)
  have k1 := h1
  have lt1 : ∀ x ∈ p1, x.block < W.heap.size := by obtain ⟨m, hm⟩ := k1; exact DataW.trod_lt m _ _ _ hm
  obtain ⟨a1, len1, cap1, ks1, rfl, w1, y1, z1⟩ := open_ints_sz (hval 1 22 v1 rfl rfl) h1 (light_of hsz (j := 1) rfl rfl)
  have k2 := h2
  have lt2 : ∀ x ∈ p2, x.block < W.heap.size := by obtain ⟨m, hm⟩ := k2; exact DataW.trod_lt m _ _ _ hm
  obtain ⟨a2, len2, cap2, ks2, rfl, w2, y2, z2⟩ := open_ints_sz (hval 2 22 v2 rfl rfl) h2 (light_of hsz (j := 2) rfl rfl)
  clear hA0 hval0
  refine (walk a0 len0 cap0 ks0 a1 len1 cap1 ks1 a2 len2 cap2 ks2 W w0 y0 z0 w1 y1 z1 w2 y2 z2).mono fun e W' ⟨he, bel⟩ => ?_
  subst he
  exact ⟨_, rfl, _, _, _, [], _, [], hW', trodAll_mk1 (shut_bool Try.underlying4 _), (trodAll_cons_mk (Below.trod laidOut (by kernel_rfl) (of_decide_eq_true (by kernel_rfl)) k0 bel lt0) (trodAll_cons_mk (Below.trod laidOut (by kernel_rfl) (of_decide_eq_true (by kernel_rfl)) k1 bel lt1) (trodAll_cons_mk (Below.trod laidOut (by kernel_rfl) (of_decide_eq_true (by kernel_rfl)) k2 bel lt2) trodAll_mk0))), rfl, bel.frame _, fun h => by cases h⟩

theorem over : Rows.postLawsRow.holds Try.pinned (OpenSpec.ofChange Rows.postLawsSpec) :=
  OpenClaim.holds_of_wide 6 Try.f6 rfl rfl rfl rfl rfl rfl rfl ⟨rfl, rfl, rfl, rfl, rfl⟩ rfl rfl rfl rfl rfl (by kernel_rfl) Try.func6 (by kernel_rfl)
    (of_decide_eq_true (by kernel_rfl)) (by unfold Func.isWrapper; first | (rw [if_pos (by decide +kernel)]; kernel_rfl) | (rw [if_neg (by decide +kernel)]; exact ⟨rfl, rfl⟩))
    (fun os started H enc _ => lifted os started H enc)

/-- the given statement -/
theorem proved : Rows.PostLawsSaid := over
#print axioms proved
end Go.Proofs.Ytpcodknhjobmdaa.postLaws
