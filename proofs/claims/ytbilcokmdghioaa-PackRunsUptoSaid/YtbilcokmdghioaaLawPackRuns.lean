/-
  'PackRuns' of fascinelaw01 is true at every input whose values and letters are together at most 1048576 (the second form's own condition), and each argument reads behind the call as it did.
-/
import Derived.Test.YtbilcokmdghioaaRows
import Derived.Test.YtbilcokmdghioaaPackRuns
import Derived.ProofKit
import Derived.OpenShut
import Derived.ShutString
import Derived.ChangeOld
import Derived.Below
import Derived.SizedLaws
import Derived.JoinedCond
import Derived.Deep.CondSized
import Derived.Test.YtbilcokmdghioaaBulk
namespace Go.Proofs.Ytbilcokmdghioaa.packRuns
open Go.ChangeShapes Go.WideShapes Go.ChangeAt Go.RowKit
open Go.ChangeMaps (open_string shut_string)
set_option linter.unusedVariables false

theorem own : ownKnob Try.prog.godebug = none := by kernel_rfl
theorem laidOut : laidOutB Try.prog = true := by kernel_rfl
theorem bytes_byte : Try.prog.bytesOf 5 = 1 := by kernel_rfl

theorem walk (a0 : Option Addr) (len0 cap0 : Nat) (l0 : List ByteArray) (a1 : Option Addr) (len1 cap1 : Nat) (l1 : List Nat) (w : World) (w0 : Mem.RdV w w.heap.size a0 len0 cap0 (l0.map Value.string)) (z0 : cap0 ≤ 1048576) (y0 : (l0.map ByteArray.size).sum ≤ 1048576) (w1 : Mem.RdV w w.heap.size a1 len1 cap1 (l1.map fun (v : Nat) => Value.int .u64 (v : Int))) (z1 : cap1 ≤ 1048576) (y1 : ∀ v ∈ l1, v < 18446744073709551616) :
    Calls Try.prog 9 #[.slice a0 len0 cap0, .slice a1 len1 cap1] w fun e w' => e = .returned (.bool true) ∧ Below w.heap.size w w' :=
  by
  have hn : len0 = l0.length := by simpa using w0.1
  refine packRuns_any a0 len0 cap0 l0 a1 len1 cap1 l1 w w0 w1 (fun s hs => ?_) y1 (fun h => ?_) z0 z1
  · have : s.size ≤ (l0.map ByteArray.size).sum := le_sum (List.mem_map_of_mem hs)
    omega
  · have := build_len l0 l1 len0 (by omega)
    rw [List.take_of_length_le (by omega)] at this
    omega

set_option maxRecDepth 100000 in
theorem lifted (os : Os) (started : os.Started) (H : Type) (enc : TypeId × Value → H) (F : Stop.Interp) :
    ReturnsInHanded {} Try.checked os 9 .any ((Rows.OpenSpec.upto Rows.packRunsSpec).pre6 enc Try.prog Try.f9 Rows.packRunsUptoRow.domain false) (((Rows.OpenSpec.upto Rows.packRunsSpec).at F).post enc Try.prog Try.f9 false true false false) := by
  refine returnsInHanded_of_cond (C := Try.checked) (s := Rows.OpenSpec.upto Rows.packRunsSpec) (k := Rows.uptoSmall) rfl own started (by kernel_rfl) Try.func9
    (OpenSpec.witness (enc := enc) (C := Try.checked) (s := Rows.OpenSpec.upto Rows.packRunsSpec) (k := Rows.uptoSmall) rfl false ⟨#[], #[.slice none 0 0, .slice none 0 0], []⟩ 8 (by kernel_rfl) (by kernel_rfl) (by kernel_rfl)
      (x := ([.nil, .nil], [], [])) (by kernel_rfl) rfl (by kernel_rfl)) ?_
  intro W base args ds gs before hval0 hW hcnd hk _
  have hval : ∀ (j : Nat) t v, Try.f9.params[j]? = some t → args[j]? = some v → Value.okWide Try.prog W .any base t v := hval0
  have hW' := hW
  obtain ⟨p, q, hA0, hV, rfl, hfz, hnd⟩ := hW
  have hA : DataW.TrodAll enc Try.prog W 0 (fun _ => true) true Try.f9.params.toList args.toList ds p := hA0
  rw [Try.params9] at hA hval
  obtain ⟨v0, vs0, d0, ds0, p0, q0, hargs, rfl, rfl, h0, r0⟩ := trodAll_cons hA
  obtain ⟨v1, vs1, d1, ds1, p1, q1, rfl, rfl, rfl, h1, r1⟩ := trodAll_cons r0
  obtain ⟨rfl, rfl, rfl⟩ := trodAll_nil r1
  obtain rfl : args = #[v0, v1] := by cases args; simp_all
  obtain ⟨rfl, rfl⟩ := trodVars_none hV
  simp only [List.append_nil] at hk
  obtain ⟨a0, len0, cap0, rfl⟩ := okWide_slice Try.underlying54 (hval 0 54 v0 rfl rfl)
  have k0 := h0
  have lt0 : ∀ x ∈ p0, x.block < W.heap.size := by obtain ⟨m, hm⟩ := k0; exact DataW.trod_lt m _ _ _ hm
  obtain ⟨l0, w0, z0, y0⟩ : ∃ xs : List ByteArray, Mem.RdV W W.heap.size a0 len0 cap0 (xs.map Value.string) ∧ cap0 ≤ 1048576 ∧ (xs.map ByteArray.size).sum ≤ 1048576 := by
    obtain ⟨fuel, hf⟩ := h0
    rcases open_strings Try.underlying54 Try.underlying9 (by kernel_rfl) hf with ⟨hcs, _⟩ | ⟨x, l, c, ss, hcs, _, hl, hm, hz, hx, hcell, hwz⟩
    · simp [Value.cells] at hcs
      obtain ⟨rfl, rfl, rfl⟩ := hcs
      exact ⟨[], Mem.RdV.none_, by omega, by simp⟩
    · simp [Value.cells] at hcs
      obtain ⟨rfl, rfl, rfl⟩ := hcs
      have hz' : ss.length = cap0 := by simpa using hz
      simp only [Prod.mk.injEq] at hx
      obtain ⟨rfl, rfl⟩ := hx
      refine ⟨_, Mem.rdv_strings W x len0 cap0 ss hl hm hz' hcell, ?_, ?_⟩
      · have := bulks.slice_at hk (j := 0) rfl
        simp only [strs, List.length_map, List.length_take, List.length_drop] at this
        omega
      · exact bulks.strs_at hk (j := 0) rfl
  obtain ⟨a1, len1, cap1, rfl⟩ := okWide_slice Try.underlying55 (hval 1 55 v1 rfl rfl)
  have k1 := h1
  have lt1 : ∀ x ∈ p1, x.block < W.heap.size := by obtain ⟨m, hm⟩ := k1; exact DataW.trod_lt m _ _ _ hm
  obtain ⟨l1, w1, z1, y1⟩ : ∃ xs : List Nat, Mem.RdV W W.heap.size a1 len1 cap1 (xs.map fun (v : Nat) => Value.int .u64 (v : Int)) ∧ cap1 ≤ 1048576 ∧ ∀ v ∈ xs, v < 18446744073709551616 := by
    obtain ⟨fuel, hf⟩ := h1
    rcases open_ints Try.underlying55 Try.underlying22 (by kernel_rfl) hf with ⟨hcs, _⟩ | ⟨x, l, c, zs, hcs, _, hl, hm, hz, hx, hcell, hwz⟩
    · simp [Value.cells] at hcs
      obtain ⟨rfl, rfl, rfl⟩ := hcs
      exact ⟨[], Mem.RdV.none_, by omega, by simp⟩
    · simp [Value.cells] at hcs
      obtain ⟨rfl, rfl, rfl⟩ := hcs
      have hz' : zs.length = cap1 := by simpa using hz
      simp only [Prod.mk.injEq] at hx
      obtain ⟨rfl, rfl⟩ := hx
      refine ⟨_, Mem.rdv_u64 W x len1 cap1 zs hl hm hz' hcell hwz, ?_, ?_⟩
      · have := bulks.slice_at hk (j := 1) rfl
        simp only [lits, List.length_map, List.length_take, List.length_drop] at this
        omega
      · intro v hv
        obtain ⟨z, hz1, rfl⟩ := List.mem_map.1 hv
        have hb := bounds_u64 (hwz z (List.mem_of_mem_take hz1))
        omega
  clear hA0 hval0
  refine (walk a0 len0 cap0 l0 a1 len1 cap1 l1 W w0 z0 y0 w1 z1 y1).mono fun e W' ⟨he, bel⟩ => ?_
  subst he
  exact ⟨_, rfl, _, _, _, [], _, [], hW', trodAll_mk1 (shut_bool Try.underlying4 _), (trodAll_cons_mk (Below.trod laidOut (by kernel_rfl) (of_decide_eq_true (by kernel_rfl)) k0 bel lt0) (trodAll_cons_mk (Below.trod laidOut (by kernel_rfl) (of_decide_eq_true (by kernel_rfl)) k1 bel lt1) trodAll_mk0)), rfl, bel.frame _, fun h => by cases h⟩

theorem over : Rows.PackRunsUptoSaid :=
  OpenClaim.holds_of_cond 9 Try.f9 rfl rfl rfl rfl rfl rfl rfl ⟨rfl, rfl, rfl, rfl, rfl⟩ rfl rfl rfl rfl rfl (by kernel_rfl) Try.func9 (by kernel_rfl)
    (of_decide_eq_true (by kernel_rfl)) (by unfold Func.isWrapper; first | (rw [if_pos (by decide +kernel)]; kernel_rfl) | (rw [if_neg (by decide +kernel)]; exact ⟨rfl, rfl⟩))
    (fun os started H enc _ F => lifted os started H enc F)

/-- the given statement -/
theorem proved : Rows.PackRunsUptoSaid := over
#print axioms proved
end Go.Proofs.Ytbilcokmdghioaa.packRuns
