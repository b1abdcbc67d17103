/-
  What Names does, by contract: the files' names, rising.
-/
import Derived.Test.YtbhginnfkmajgaaDiskH
import Derived.Test.YtbhginnfkmajgaaIter
namespace Go.Proofs.Ytbhginnfkmajgaa
open Go.RowKit Mem FM Go.Maps Go.Sort Go.Shelf

theorem leB_of_lt {a b : List UInt8} (h : a < b) : leB a b = true := by
  simp only [leB, decide_eq_true_eq]
  exact List.le_of_lt h
theorem names_sorted {X : Type} {l : List (File X)} (h : Rise l) : (names l).mergeSort leB = names l := by
  refine List.mergeSort_of_pairwise ?_
  unfold names
  exact List.pairwise_map.2 (List.Pairwise.imp (fun {a b} hab => leB_of_lt hab) h)
theorem FilesAt.keys {w : World} {F : Nat → Prop} {b nn : Nat} {cs : List (File Spot)} {m : DataW Unit} (h : FilesAt w F b nn cs) (hm : w.ownsMap Try.prog 9 rdPtr b nn m) : (names cs).Perm (strKeys m) := by
  obtain ⟨m', h1, _, h3, h4, _⟩ := h
  have e := ownsMap_unique h1 hm
  subst e
  obtain ⟨es, rfl, hp⟩ := h1.tidy Try.keyed
  have hk : ∀ p ∈ es, ∃ x, p.1 = .string x := by
    obtain ⟨es', e', hk'⟩ := h1.keysOf
    injection e' with e'
    subst e'
    intro p hp
    obtain ⟨k, hk⟩ := hk' p hp
    obtain ⟨x, _, hx, _⟩ := Maps.keyOf_str Try.underlying9 hk
    exact ⟨x, hx⟩
  refine perm_strKeys hp hk h4.names_nodup fun x => ?_
  constructor
  · intro hx
    obtain ⟨f, hf⟩ := find_mem hx
    exact has_true_of_atKey (y := .lit (.int .i64 (f.x.g : Int))) fun z => by rw [h3 x z, hf]; rfl
  · intro hx
    cases hf : find x cs with
    | some f => obtain ⟨e1, e2⟩ := find_name hf; rw [← e1]; exact List.mem_map_of_mem e2
    | none =>
      have := has_false_of_atKey (D := .map es) (k := .string x) fun z => by rw [h3 x z, hf]; rfl
      rw [this] at hx; cases hx

def NamesAt (w : World) (s : St) (e : Ending) (w' : World) : Prop :=
  ∃ v, e = .returned v ∧ w'.ownsRow w.heap.size 9 1 v s.files.length ((names s.files).map encStr) ∧ Below w.heap.size w w'

set_option maxRecDepth 100000 in
set_option maxHeartbeats 1000000 in
theorem names_any (D : Nat) (F : Nat → Prop) (s : St) (w : World) (h : DiskAt w F D s) : Calls Try.prog 27 #[.pointer (some ⟨D, 0, none⟩)] w (NamesAt w s) := by
  obtain ⟨b, nn, cs, hdb, hFD, hfs, hnn, hcs, hu, hroom, hfuse, hops0, hFlt⟩ := h
  have c2 := hdb.c2
  have HK := Lib.hid (fun m hm => hfs.keys (m := m) hm)
  have HRISE := Lib.hid hfs.rise
  have HCS := Lib.hid hcs
  obtain ⟨m, hown, -⟩ := hfs
  have hsz := hown.size_le
  have hmax : Maps.size m ≤ maxLen := by simp only [maxLen]; omega
  have hbytes : Maps.size m * 16 ≤ 140737488355328 := by omega
  clear hdb hcs
  refine (callsIn_wide (n := 6)).1 ?_
  have hfK : Fence.wide.fn 43 := trivial
  have hfS : Fence.wide.fn 42 := trivial
  refine callsIn_of_wp Try.func27 rfl trivial ?_ rfl
  simp only [Try.ntmps27, List.size_toArray, List.length_cons, List.length_nil, Nat.reduceAdd, Nat.reduceSub, Array.replicate_succ, Array.replicate_zero, List.push_toArray, List.append_toArray, List.nil_append, List.cons_append]
  gi_wp2_with (first
    | (gi_at_call 43; refine (Try.maps_Keys_43 _ _).mono ?_; rintro e w' ⟨rfl, rfl⟩)
    | (gi_at_call 42; refine (Try.slices_Sorted_keys_42_43 b nn m rdPtr w hown hmax hbytes).mono ?_; rintro e w' ⟨v, ss, rfl, hS, hrow, hnil, hb⟩))
  go_ret
  have hperm := HK.out m hown
  have e1 : ss.mergeSort leB = names s.files := by
    rw [mergeSort_of_perm (hS.trans hperm.symm), names_sorted HRISE.out, ← HCS.out, bare_names]
  have e2 : ss.length = s.files.length := by
    rw [(hS.trans hperm.symm).length_eq, ← HCS.out]; simp [names, bare]
  refine ⟨v, rfl, ?_, ((Below.refl _ w).alloc (Nat.le_refl _) _).trans (hb.mono (by simp))⟩
  have := ownsRow_base_a hrow (base' := w.heap.size) (by simp)
  rw [e2] at this
  rw [← e1]
  exact this
end Go.Proofs.Ytbhginnfkmajgaa
