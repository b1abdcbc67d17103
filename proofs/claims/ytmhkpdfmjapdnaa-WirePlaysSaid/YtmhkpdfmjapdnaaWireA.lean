/-
  A network in memory ('NetAt'): its block, its row of packets, each packet's bytes; and what fresh does, by a contract.
-/
import Derived.Test.YtmhkpdfmjapdnaaRows
import Derived.Test.YtmhkpdfmjapdnaaTurn
import Derived.Test.YtmhkpdfmjapdnaaMemV
import Derived.Deep.OwnRows
import Derived.Laws.CopyOwn
import Derived.Laws.BitsLemmas
import Derived.Lib.Hide
import Derived.Deep.DeepMust
import Derived.BigQuiet
namespace Go.Proofs.Ytmhkpdfmjapdnaa
open Go.RowKit Mem

/-- a packet -/
structure Pk where
  src : Int
  dst : Int
  data : List UInt8
def Pk.fits (p : Pk) : Prop := -9223372036854775808 ≤ p.src ∧ p.src ≤ 9223372036854775807 ∧ -9223372036854775808 ≤ p.dst ∧ p.dst ≤ 9223372036854775807
def Pk.none_ : Pk := ⟨0, 0, []⟩

theorem Try.infoB : (Try.prog.info? 5).map (fun i => (i.zero, i.size, i.bytes)) = some (some (.int .u8 0), 1, 1) := by kernel_rfl
theorem info_parts {P : Program} {e : TypeId} {z : Option Value} {n b : Nat} (h : (P.info? e).map (fun i => (i.zero, i.size, i.bytes)) = some (z, n, b)) : ∃ i, P.info? e = some i ∧ i.zero = z ∧ i.size = n ∧ i.bytes = b := by
  obtain ⟨i, hi, he⟩ := Option.map_eq_some_iff.1 h
  simp only [Prod.mk.injEq] at he
  exact ⟨i, hi, he⟩

theorem Try.size1 : (Try.prog.info? 5).map (·.size) = some 1 := by kernel_rfl
/-- a packet that is new memory -/
def slOf (g : Nat) (l : List UInt8) : Value := .slice (some ⟨g, 0, none⟩) l.length l.length
def FreshAt (p : Pk) (w : World) (g : Nat) (w' : World) : Prop := Own w' w.heap.size 5 (slOf g p.data) p.data ∧ Below w.heap.size w w' ∧ w.heap.size ≤ g
def pkVal (p : Pk) (g : Nat) : Value := .agg #[.int .i64 p.src, .int .i64 p.dst, .slice (some ⟨g, 0, none⟩) p.data.length p.data.length]
def Fresh (p : Pk) (w : World) (e : Ending) (w' : World) : Prop := ∃ g, e = .returned (pkVal p g) ∧ FreshAt p w g w'

theorem setRow_alloc (w : World) (cs cs' : Array Value) (e : TypeId) (m : Nat × Nat) : (w.alloc (.cells cs e m)).setRow w.heap.size cs' = w.alloc (.cells cs' e m) := by
  unfold World.setRow World.alloc
  congr 1
  apply Array.ext
  · simp
  · intro i h1 h2
    simp only [Array.getElem_modify, Array.getElem_push]
    by_cases hi : i < w.heap.size
    · simp [hi]; omega
    · have : w.heap.size = i := by simp at h1; omega
      simp [this]

/-- copy into a row that has just been made -/
theorem run_copy_new (w : World) (t : TypeId) (ty e : TypeId) (ht : Try.prog.underlying t = some (.slice e)) (hs : (Try.prog.info? e).map (·.size) = some 1) (n c B : Nat) (A : Option Addr) (l : List UInt8) (cs : Array Value) (hcs : cs.size = n) (hr : Rd w B A n c l) (hB : B ≤ w.heap.size) :
    (Builtin.copy_ #[t, t] ty #[.slice (some ⟨w.heap.size, 0, none⟩) n n, .slice A n c]).run Try.prog (w.alloc (.cells cs e)) = .ok (goInt n) (w.alloc (.cells (bcells l).toArray e)) := by
  have hl := hr.len
  have hmin : Nat.min n n = n := Nat.min_self n
  rcases Nat.eq_zero_or_pos n with h0 | h0
  · subst h0
    have : l = [] := List.eq_nil_of_length_eq_zero hl.symm
    subst this
    have : cs = #[] := Array.eq_empty_of_size_eq_zero hcs
    subst this
    exact run_copy_none (P := Try.prog) _ t t ty e _ _ 0 0 0 c ht hs rfl
  · obtain ⟨b, off, rfl, hb, hc⟩ := hr.2.2.2 h0
    have := run_copy_row (P := Try.prog) (w.alloc (.cells cs e)) t t ty e w.heap.size 0 n n ⟨b, off, none⟩ n c cs e (bcells l) ht hs (heap_alloc_new w _) (by rw [bcells_len, hmin]; omega) (fun j v hv => by
      have hj : j < l.length := by have := (List.getElem?_eq_some_iff.1 hv).1; simpa [bcells] using this
      rw [bcells_at hj] at hv
      injection hv with hv
      subst hv
      rw [add_none, World.cell?_alloc_lt w _ _ (by show b < _; omega)]
      exact hc j (by omega)) (by rw [bcells_len]; omega) (bcells_one l)
    rw [bcells_len, ← hl] at this
    rw [this]
    have e1 : cs.toList.take 0 ++ bcells l ++ cs.toList.drop (0 + n) = bcells l := by
      rw [List.take_zero, List.nil_append, List.drop_eq_nil_of_le (by simp; omega), List.append_nil]
    rw [e1, setRow_alloc]

set_option maxRecDepth 100000 in
set_option maxHeartbeats 400000 in
theorem fresh_any (p : Pk) (A : Option Addr) (n c B : Nat) (w : World) (hr : Rd w B A n c p.data) (hB : B ≤ w.heap.size) (hn : n ≤ 140737488355328) :
    Calls Try.prog 16 #[.agg #[.int .i64 p.src, .int .i64 p.dst, .slice A n c]] w (Fresh p w) := by
  have HN := Lib.hid hr.len
  have HR := Lib.hid hr
  have hc := hr.cap; have hm := hr.max
  have hmk := run_make_row' (P := Try.prog) 27 5 (.int .u8 0) 1 Try.underlying27 Try.infoB rfl .i64 .i64 n (by omega) (by omega)
  clear hr
  go_enter Try.func16, Try.ntmps16
  go_wp2_with fail
  have hcp := run_copy_new ((w.alloc (.cells #[.int .i64 p.src, .int .i64 p.dst, .slice A n c] 29)).alloc (.cells #[.int .i64 0, .int .i64 0, .slice none 0 0] 29)) 27 3 5 Try.underlying27 Try.size1 n c B A p.data (madeCells #[.int .u8 0] n) (size_madeCells _ _) ((HR.out.alloc hB _).alloc (by simp; omega) _) (by simp; omega)
  rw [show ((w.alloc (.cells #[.int .i64 p.src, .int .i64 p.dst, .slice A n c] 29)).alloc (.cells #[.int .i64 0, .int .i64 0, .slice none 0 0] 29)).heap.size = w.heap.size + 1 + 1 by simp] at hcp
  rw [hcp]
  clear hcp
  go_wp2
  refine bodyPost_ret (v := .agg #[.int .i64 p.src, .int .i64 p.dst, .slice (some ⟨w.heap.size + 1 + 1, 0, none⟩) n n]) (by simp [results, Try.results16, go_sem]) rfl ⟨w.heap.size + 1 + 1, by rw [HN.out]; rfl, ?_, ?_, by omega⟩
  · have hl := HN.out
    refine ⟨by simp [bcells_len], .inr ⟨w.heap.size + 1 + 1, n, (bcells p.data).toArray, by rw [slOf, ← hl], by omega, ?_, by omega, by simp only [maxLen]; omega, by simp [bcells_len]; omega, ?_⟩⟩
    · have := heap_alloc_new ((w.alloc (Obj.cells #[Value.int IntKind.i64 p.src, Value.int IntKind.i64 p.dst, Value.slice (some ⟨w.heap.size + 1 + 1, 0, none⟩) n n] 29)).alloc (Obj.cells #[Value.int IntKind.i64 p.src, Value.int IntKind.i64 p.dst, Value.slice (some ⟨w.heap.size + 1 + 1, 0, none⟩) n n] 29)) (Obj.cells (bcells p.data).toArray 5)
      simpa using this
    · rw [Nat.mul_one, List.take_of_length_le]
      simp [bcells_len]
  · exact (((Below.refl _ w).alloc (Nat.le_refl _) _).alloc (by simp) _).alloc (by simp; omega) _
end Go.Proofs.Ytmhkpdfmjapdnaa
