/-
  What the document's find, name, trim, low, length do, by contracts.
-/
import Derived.Test.YtdbinhbmhkbfeaaGreatDoorHttpA
import Derived.Test.YtdbinhbmhkbfeaaGreatDoorHttpNum
import Derived.Lib.ConvBytes
import Derived.Laws.IdiomStrings
namespace Go.Proofs.YtdbinhbmhkbfeaaGreatDoor
open Go.RowKit Mem
set_option linter.unusedVariables false
set_option maxRecDepth 100000

def SaysZ (n : Int) (w : World) (e : Ending) (w' : World) : Prop := e = .returned (.int .i64 n) ∧ w' = w

/-- the place of a byte, as the document tells it -/
def fz (c : UInt8) (l : List UInt8) : Int := if M.fi c l < l.length then ((M.fi c l : Nat) : Int) else -1
theorem fz_some {c : UInt8} {l : List UInt8} (h : M.fi c l < l.length) : fz c l = ((M.fi c l : Nat) : Int) := if_pos h
theorem fz_none {c : UInt8} {l : List UInt8} (h : ¬ M.fi c l < l.length) : fz c l = -1 := if_neg h

/-- the block g holds the bytes l, which may be written over -/
def Bs (w : World) (g : Nat) (l : List UInt8) : Prop := ∀ j, j < l.length → w.cell? ⟨g, j, none⟩ = some (.int .u8 ((l[j]?.getD 0).toNat : Int)) ∧ w.frozen? ⟨g, j, none⟩ = false
theorem Bs.set {w : World} {g i : Nat} {l : List UInt8} (h : Bs w g l) (hi : i < l.length) (b : UInt8) : Bs (w.setCell ⟨g, i, none⟩ (.int .u8 (b.toNat : Int))) g (l.set i b) := by
  intro j hj
  rw [List.length_set] at hj
  refine ⟨?_, ?_⟩
  · by_cases e : i = j
    · subst e
      rw [World.cell?_setCell_same w _ _ (h i hi).1, List.getElem?_set_self hi]
      rfl
    · rw [World.cell?_setCell_other w _ _ _ (fun q => e (by simpa using q.symm)), List.getElem?_set_ne e]
      exact (h j hj).1
  · rw [World.frozen?_setCell]
    exact (h j hj).2
theorem Bs.rd {w : World} {g c : Nat} {l : List UInt8} (h : Bs w g l) (hg : g < w.heap.size) (hc : l.length ≤ c) (hm : c ≤ maxLen) : Rd w w.heap.size (some ⟨g, 0, none⟩) l.length c l :=
  ⟨rfl, hc, hm, fun _ => ⟨g, 0, rfl, hg, fun j hj => by rw [Nat.zero_add]; exact (h j hj).1⟩⟩
/-- []byte(s) -/
theorem conv_bytes (s : ByteArray) (w : World) (hs : s.size ≤ 140737488355328) : ∃ (wb : World) (c : Nat), (convert 9 52 (.string s)).run Tryz.prog w = .ok (.slice (some ⟨w.heap.size, 0, none⟩) s.size c) wb ∧ s.size ≤ c ∧ c ≤ maxLen ∧
    Bs wb w.heap.size (bl s) ∧ Below w.heap.size w wb ∧ w.heap.size < wb.heap.size := by
  refine ⟨_, _, Lib.run_convert_string_bytes w 9 52 5 s Tryz.underlying9 Tryz.underlying52 Tryz.underlying5, ?_, ?_, ?_, ?_, ?_⟩
  · exact grownCap_ge _ _ _ _
  · exact grownCap_le_maxLen _ _ _ _ (by simp only [maxLen]; omega)
  · intro j hj
    rw [bl_len] at hj
    refine ⟨?_, ?_⟩
    · rw [Lib.bytesWorld_cell w _ s j hj]; simp [List.getD]
    · have hh := Lib.bytesWorld_at_new w 5 s
      have hz : s.size ≤ (Lib.bytesCells w 5 s).size := by unfold Lib.bytesCells; simp
      have : ¬ (Lib.bytesCells w 5 s).size ≤ j := by omega
      simp [World.frozen?, hh, this]
  · exact ⟨rfl, rfl, rfl, by rw [Lib.bytesWorld_size]; omega, fun k hk => Lib.bytesWorld_at_old w _ s k hk⟩
  · rw [Lib.bytesWorld_size]; omega
/-- the first i letters turned -/
def partly (f : UInt8 → UInt8) (l : List UInt8) (i : Nat) : List UInt8 := (l.take i).map f ++ l.drop i
theorem partly_len (f : UInt8 → UInt8) (l : List UInt8) (i : Nat) : (partly f l i).length = l.length := by unfold partly; simp; omega
theorem partly_at {f : UInt8 → UInt8} {l : List UInt8} {i : Nat} (h : i < l.length) : (partly f l i)[i]?.getD 0 = l[i] := by
  unfold partly
  rw [List.getElem?_append_right (by simp; omega)]
  simp [h, show i - min i l.length = 0 by omega]
theorem partly_next {f : UInt8 → UInt8} {l : List UInt8} {i : Nat} (h : i < l.length) : partly f l (i + 1) = (partly f l i).set i (f l[i]) := by
  unfold partly
  have e1 : l.drop i = l[i] :: l.drop (i + 1) := List.drop_eq_getElem_cons h
  have e2 : l.take (i + 1) = l.take i ++ [l[i]] := by rw [List.take_succ_eq_append_getElem h]
  have e3 : ((l.take i).map f).length = i := by simp; omega
  rw [e1, e2, List.map_append, List.set_append_right _ _ (by omega), e3, Nat.sub_self]
  simp only [List.append_assoc, List.map_cons, List.map_nil, List.cons_append, List.nil_append, List.set_cons_zero]
theorem partly_all {f : UInt8 → UInt8} {l : List UInt8} {i : Nat} (h : l.length ≤ i) : partly f l i = l.map f := by
  unfold partly
  rw [List.take_of_length_le h, List.drop_eq_nil_of_le h, List.append_nil]
theorem partly_zero (f : UInt8 → UInt8) (l : List UInt8) : partly f l 0 = l := by unfold partly; simp
theorem set_same {l : List UInt8} {i : Nat} (h : i < l.length) (b : UInt8) (hb : l[i]?.getD 0 = b) : l.set i b = l := by
  subst hb
  rw [List.getElem?_eq_getElem h]
  simp

end Go.Proofs.YtdbinhbmhkbfeaaGreatDoor
