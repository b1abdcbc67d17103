/-
  What Names does, by contract: the files' names, rising.
-/
import Derived.Test.YtjdkpcibdjhdoaaDoorDiskH
import Derived.Shelf.SlIter.Nil
namespace Go.Proofs.YtjdkpcibdjhdoaaDoor
open Go.RowKit Mem FM Go.Maps Go.Sort Go.Shelf

theorem leB_of_lt {a b : List UInt8} (h : a < b) : leB a b = true := by
  simp only [leB, decide_eq_true_eq]
  exact List.le_of_lt h
theorem names_sorted {X : Type} {l : List (File X)} (h : Rise l) : (names l).mergeSort leB = names l := by
  refine List.mergeSort_of_pairwise ?_
  unfold names
  exact List.pairwise_map.2 (List.Pairwise.imp (fun {a b} hab => leB_of_lt hab) h)
theorem FilesAt.keys {w : World} {F : Nat → Prop} {b nn : Nat} {cs : List (File Spot)} {m : DataW Unit} (h : FilesAt w F b nn cs) (hm : w.ownsMap Tryd.prog 9 rdPtr b nn m) : (names cs).Perm (strKeys m) := by
  obtain ⟨m', h1, _, h3, h4, _⟩ := h
  have e := ownsMap_unique h1 hm
  subst e
  obtain ⟨es, rfl, hp⟩ := h1.tidy Tryd.keyed
  have hk : ∀ p ∈ es, ∃ x, p.1 = .string x := by
    obtain ⟨es', e', hk'⟩ := h1.keysOf
    injection e' with e'
    subst e'
    intro p hp
    obtain ⟨k, hk⟩ := hk' p hp
    obtain ⟨x, _, hx, _⟩ := Maps.keyOf_str Tryd.underlying9 hk
    exact ⟨x, hx⟩
  refine perm_strKeys hp hk h4.names_nodup fun x => ?_
  constructor
  · intro hx
    obtain ⟨f, hf⟩ := find_mem hx
    exact has_true_of_atKey (y := .lit (.int .i64 (f.x.g : Int))) fun z => by rw [h3 x z, hf]; rfl
  · intro hx
    cases hf : find x cs with
    | some f => obtain ⟨e1, e2⟩ := find_name hf; rw [← e1]; exact List.mem_map_of_mem e2
    | none =>
      have := has_false_of_atKey (D := .map es) (k := .string x) fun z => by rw [h3 x z, hf]; rfl
      rw [this] at hx; cases hx

def NamesAt (w : World) (s : St) (e : Ending) (w' : World) : Prop :=
  ∃ v, e = .returned v ∧ w'.ownsRow w.heap.size 9 1 v s.files.length ((names s.files).map encStr) ∧ Below w.heap.size w w'

end Go.Proofs.YtjdkpcibdjhdoaaDoor
