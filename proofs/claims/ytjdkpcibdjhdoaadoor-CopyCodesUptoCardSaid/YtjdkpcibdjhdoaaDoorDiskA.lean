/-
  What disk.Name and the document's Name do, by contracts: each answers 'nameOk' of the text.
-/
import Derived.Test.YtjdkpcibdjhdoaaDoorRows
import Derived.Test.YtjdkpcibdjhdoaaDoorMem
import Derived.Laws.BitsLemmas
import Derived.Lib.Hide
import Derived.Deep.DeepMust
namespace Go.Proofs.YtjdkpcibdjhdoaaDoor
open Go.RowKit Mem

/-- a byte that a file's name may have -/
def nb (x : Nat) : Bool := decide (97 ≤ x) && decide (x ≤ 122) || decide (48 ≤ x) && decide (x ≤ 57) || x == 46 || x == 45
/-- from place i on nothing but such bytes -/
def nbFrom (s : ByteArray) (i : Nat) : Bool := (s.data.toList.drop i).all fun b => nb b.toNat
def nameOk (s : ByteArray) : Bool := decide (1 ≤ s.size) && decide (s.size ≤ 32) && nbFrom s 0

theorem nb_iff (x : Nat) : nb x = true ↔ (97 ≤ x ∧ x ≤ 122 ∨ 48 ≤ x ∧ x ≤ 57 ∨ x = 46 ∨ x = 45) := by
  unfold nb; simp [or_assoc]

def Says (b : Bool) (w : World) (e : Ending) (w' : World) : Prop := e = .returned (.bool b) ∧ w' = w

set_option maxRecDepth 100000 in
set_option maxHeartbeats 400000 in
theorem nameByte_any (x : Nat) (w : World) (hx : x < 256) : Calls Tryd.prog 68 #[.int .u8 x] w (Says (nb x) w) := by
  have HNB := Lib.hid (nb_iff x)
  by_cases h1 : 97 ≤ x <;> by_cases h2 : x ≤ 122 <;> by_cases h3 : 48 ≤ x <;> by_cases h4 : x ≤ 57 <;> by_cases h5 : x = 46 <;> by_cases h6 : x = 45 <;> first | (exfalso; omega) | skip
  all_goals
    have hq5 : ((x : Int) == 46) = decide (x = 46) := by rw [Bool.eq_iff_iff]; simp; omega
    have hq6 : ((x : Int) == 45) = decide (x = 45) := by rw [Bool.eq_iff_iff]; simp; omega
    simp only [h5, h6, decide_true, decide_false] at hq5 hq6
    go_enter Tryd.func68, Tryd.ntmps68
    go_wp2
    go_ret
    refine ⟨congrArg (fun b => Ending.returned (Value.bool b)) (?_ : (_ : Bool) = nb x), rfl⟩
    rw [Bool.eq_iff_iff, HNB.out]
    first | (simp; omega) | simp

theorem nbFrom_step {s : ByteArray} {i : Nat} (hi : i < s.size) : nbFrom s i = (nb (s[i]).toNat && nbFrom s (i + 1)) := by
  unfold nbFrom
  rw [List.drop_eq_getElem_cons (by simpa using hi), List.all_cons]
  rfl
theorem nbFrom_end {s : ByteArray} {i : Nat} (hi : s.size ≤ i) : nbFrom s i = true := by
  unfold nbFrom
  rw [List.drop_eq_nil_of_le (by simpa using hi)]; rfl

set_option maxRecDepth 100000 in
set_option maxHeartbeats 400000 in
theorem name_any (s : ByteArray) (w : World) (hs : s.size ≤ 9223372036854775807) : Calls Tryd.prog 52 #[.string s] w (Says (nameOk s) w) := by
  have HNO := Lib.hid (show nameOk s = (decide (1 ≤ s.size) && decide (s.size ≤ 32) && nbFrom s 0) from rfl)
  by_cases h1 : s.size < 1
  · go_enter Tryd.func52, Tryd.ntmps52
    go_wp2
    go_ret
    exact ⟨by rw [HNO.out]; simp; omega, rfl⟩
  by_cases h2 : 32 < s.size
  · go_enter Tryd.func52, Tryd.ntmps52
    go_wp2
    go_ret
    exact ⟨by rw [HNO.out]; simp; omega, rfl⟩
  have HN2 := Lib.hid (show nameOk s = nbFrom s 0 by rw [HNO.out]; simp; omega)
  clear HNO
  go_enter Tryd.func52, Tryd.ntmps52
  go_wp2
  go_loop [14] (fun p => ∃ i : Nat, p = .int .i64 i ∧ i ≤ s.size ∧ Hid (nbFrom s i = nbFrom s 0)) (fun p => s.size - (intOf p).toNat)
  case atStart => exact ⟨0, rfl, by omega, Lib.hid rfl⟩
  case round =>
    obtain ⟨i, rfl, hi, HI⟩ := hrel
    by_cases hlt : i < s.size
    · have HB := Lib.hid (nbFrom_step hlt)
      have hx : (s[i]).toNat < 256 := UInt8.toNat_lt _
      cases hb : nb (s[i]).toNat
      · go_wp2_with fail
        refine (nameByte_any _ _ hx).mono ?_
        rintro e w1 ⟨rfl, rfl⟩
        rw [hb]
        go_wp2
        go_ret
        exact ⟨by rw [HN2.out, ← HI.out, HB.out, hb]; rfl, rfl⟩
      · go_wp2_with fail
        refine (nameByte_any _ _ hx).mono ?_
        rintro e w1 ⟨rfl, rfl⟩
        rw [hb]
        go_wp2
        go_round
        case rel => exact ⟨i + 1, by go_num, by omega, Lib.hid (by rw [← HI.out, HB.out, hb]; rfl)⟩
        case measure => simp [intOf]; omega
    · have HE := Lib.hid (nbFrom_end (s := s) (i := i) (by omega))
      go_wp2
      go_ret
      exact ⟨by rw [HN2.out, ← HI.out, HE.out]; rfl, rfl⟩

end Go.Proofs.YtjdkpcibdjhdoaaDoor
