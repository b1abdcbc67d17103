/-
  What seg's answerNot, answerAll, answerOne and answer do, by contracts.
-/
import Derived.Test.YthhgelaifapmmaaDoorSegQ
namespace Go.Proofs.YthhgelaifapmmaaDoor
open Go.RowKit Mem Go.ChangeShapes Go.Sort
set_option linter.unusedVariables false
set_option maxRecDepth 100000

/-- the contract of 'answer' at one query -/
def AnswerAt (w0 : World) (g : Nat) (ds : List M.D) (q : Q) : Prop := ∀ (B0 : Nat) (v : Value) (l : List Int) (w : World), Below w0.heap.size w0 w → B0 ≤ w.heap.size → OwnV w B0 3 v (ints l) → Fine ds l →
  Calls Tryd.prog 46 #[.pointer (some ⟨g, 0, none⟩), q.val, v] w (GivesF B0 w (l.filter (hasAt ds q)))

theorem all_cons (ds : List M.D) (q : Q) (r : List Q) (l : List Int) : l.filter (allAt ds (q :: r)) = (l.filter (hasAt ds q)).filter (allAt ds r) := by
  rw [List.filter_filter]
  congr 1
  funext x
  unfold allAt hasAt
  rw [Q.hasAll, Bool.and_comm]
theorem one_cons (ds : List M.D) (q : Q) (r : List Q) (l : List Int) : l.filter (fun x => !oneAt ds (q :: r) x) = (l.filter (fun x => !hasAt ds q x)).filter (fun x => !oneAt ds r x) := by
  rw [List.filter_filter]
  congr 1
  funext x
  unfold oneAt hasAt
  rw [Q.hasOne, Bool.not_or, Bool.and_comm]
theorem all_nil (ds : List M.D) (l : List Int) : l.filter (allAt ds []) = l := List.filter_eq_self.2 fun x _ => by unfold allAt; rw [Q.hasAll]
theorem one_nil (ds : List M.D) (l : List Int) : l.filter (fun x => !oneAt ds [] x) = l := List.filter_eq_self.2 fun x _ => by unfold oneAt; rw [Q.hasOne]; rfl

set_option maxHeartbeats 2000000 in
theorem segAll_any (w0 : World) (g : Nat) (ds : List M.D) (A : Option Addr) (n c : Nat) (ks : List Q) (hr : Q.Row w0 w0.heap.size A n c ks) (ih : ∀ q ∈ ks, AnswerAt w0 g ds q)
    (B0 : Nat) (v : Value) (l : List Int) (w : World) (hb : Below w0.heap.size w0 w) (hB : B0 ≤ w.heap.size) (ho : OwnV w B0 3 v (ints l)) (hf : Fine ds l) :
    Calls Tryd.prog 64 #[.pointer (some ⟨g, 0, none⟩), .slice A n c, v] w (GivesF B0 w (l.filter (allAt ds ks))) := by
  have HR := Lib.hid hr; have HI := Lib.hid ih; have HN := Lib.hid hr.1
  have hc := hr.2.1; have hm := hr.2.2.1
  have HB := Lib.hid hb; have HO := Lib.hid ho; have HF := Lib.hid hf
  clear hr ih hb ho hf
  go_enter Tryd.func64, Tryd.ntmps64
  go_wp2
  go_loopw [2, 11] (fun u p wr => ∃ (j : Nat) (r : List Int), p = .int .i64 j ∧ j ≤ n ∧ Hid (OwnV wr B0 3 u (ints r)) ∧ Hid (Fine ds r) ∧ Hid (l.filter (allAt ds ks) = r.filter (allAt ds (ks.drop j))) ∧ Hid (Below w.heap.size w wr)) (fun _ p _ => n - (intOf p).toNat)
  case atStart => exact ⟨0, l, rfl, Nat.zero_le _, HO, HF, Lib.hid rfl, Lib.hid (Below.refl _ _)⟩
  case round =>
    obtain ⟨j, r, rfl, hj, HOr, HFr, HE, HBr⟩ := hrel
    rename World => wr
    have HB0r := Lib.hid (HB.out.trans (HBr.out.mono HB.out.size))
    by_cases hlt : j < n
    · obtain ⟨b, off, k, t, z, A', n', c', ks', rfl, hbB, hq, c0, c1, c2, c3⟩ := (HR.out.below HB0r.out).at_ hlt
      have hil : (j : Int) < (n : Int) := by omega
      have HCON := Lib.hid (HI.out _ (List.mem_of_getElem? hq) B0 _ r (wr.alloc (.cells #[.int .u8 (k : Int), .string ⟨t.toArray⟩, .int .i64 z, .slice A' n' c'] 39)) (HB0r.out.alloc HB0r.out.size _) (Nat.le_trans hB (Nat.le_trans HBr.out.size (by simp))) (HOr.out.alloc _) HFr.out)
      have HE2 := Lib.hid (show l.filter (allAt ds ks) = (r.filter (hasAt ds (.mk k t z A' n' c' ks'))).filter (allAt ds (ks.drop (j + 1))) by rw [HE.out, Q.drop_at hq, all_cons])
      have HF2 := Lib.hid (HFr.out.filter (hasAt ds (.mk k t z A' n' c' ks')))
      have HB1 := Lib.hid (HBr.out.alloc HBr.out.size (.cells #[.int .u8 (k : Int), .string ⟨t.toArray⟩, .int .i64 z, .slice A' n' c'] 39))
      clear hq
      go_wp2_with fail
      refine HCON.out.mono ?_
      rintro e w2 ⟨v2, rfl, hO2, hb2⟩
      have HO2 := Lib.hid hO2
      have HB2 := Lib.hid (HB1.out.trans (hb2.mono HB1.out.size))
      clear hO2 hb2
      go_wp2
      go_roundw
      case rel => exact ⟨j + 1, _, by go_num, by omega, HO2, HF2, HE2, HB2⟩
      case measure => simp [intOf]; omega
    · have HX := Lib.hid (show l.filter (allAt ds ks) = r by rw [HE.out, List.drop_eq_nil_of_le (by have := HN.out; omega), all_nil])
      go_wp2
      go_ret
      exact ⟨_, rfl, by rw [HX.out]; exact HOr.out, HBr.out⟩

set_option maxHeartbeats 2000000 in
theorem segOne_any (w0 : World) (g : Nat) (ds : List M.D) (hl : ds.length ≤ 4096) (A : Option Addr) (n c : Nat) (ks : List Q) (hr : Q.Row w0 w0.heap.size A n c ks) (ih : ∀ q ∈ ks, AnswerAt w0 g ds q)
    (B0 : Nat) (v : Value) (l : List Int) (w : World) (hb : Below w0.heap.size w0 w) (hB : B0 ≤ w.heap.size) (ho : OwnV w B0 3 v (ints l)) (hf : Fine ds l) :
    Calls Tryd.prog 65 #[.pointer (some ⟨g, 0, none⟩), .slice A n c, v] w (GivesF B0 w (l.filter (oneAt ds ks))) := by
  have HR := Lib.hid hr; have HI := Lib.hid ih; have HN := Lib.hid hr.1
  have hc := hr.2.1; have hm := hr.2.2.1
  have HB := Lib.hid hb; have HO := Lib.hid ho; have HF := Lib.hid hf
  clear hr ih hb ho hf
  go_enter Tryd.func65, Tryd.ntmps65
  go_wp2
  go_loopw [7, 13] (fun u p wr => ∃ (j : Nat) (r : List Int), p = .int .i64 j ∧ j ≤ n ∧ Hid (OwnV wr B0 3 u (ints r)) ∧ Hid (Fine ds r) ∧ Hid (l.filter (fun x => !oneAt ds ks x) = r.filter (fun x => !oneAt ds (ks.drop j) x)) ∧ Hid (Below w.heap.size w wr)) (fun _ p _ => n - (intOf p).toNat)
  case atStart => exact ⟨0, l, rfl, Nat.zero_le _, HO, HF, Lib.hid rfl, Lib.hid (Below.refl _ _)⟩
  case round =>
    obtain ⟨j, r, rfl, hj, HOr, HFr, HE, HBr⟩ := hrel
    rename World => wr
    have HB0r := Lib.hid (HB.out.trans (HBr.out.mono HB.out.size))
    by_cases hlt : j < n
    · obtain ⟨b, off, k, t, z, A', n', c', ks', rfl, hbB, hq, c0, c1, c2, c3⟩ := (HR.out.below HB0r.out).at_ hlt
      have hil : (j : Int) < (n : Int) := by omega
      have HCON := Lib.hid (HI.out _ (List.mem_of_getElem? hq) B0 _ r (wr.alloc (.cells #[.int .u8 (k : Int), .string ⟨t.toArray⟩, .int .i64 z, .slice A' n' c'] 39)) (HB0r.out.alloc HB0r.out.size _) (Nat.le_trans hB (Nat.le_trans HBr.out.size (by simp))) (HOr.out.alloc _) HFr.out)
      have HLF := Lib.hid (less_filter HFr.out.1 (hasAt ds (.mk k t z A' n' c' ks')))
      have HE2 := Lib.hid (show l.filter (fun x => !oneAt ds ks x) = (r.filter (fun x => !hasAt ds (.mk k t z A' n' c' ks') x)).filter (fun x => !oneAt ds (ks.drop (j + 1)) x) by rw [HE.out, Q.drop_at hq, one_cons])
      have HF2 := Lib.hid (HFr.out.filter (fun x => !hasAt ds (.mk k t z A' n' c' ks') x))
      have HB1 := Lib.hid (HBr.out.alloc HBr.out.size (.cells #[.int .u8 (k : Int), .string ⟨t.toArray⟩, .int .i64 z, .slice A' n' c'] 39))
      have HL2 := Lib.hid (show r.length + (r.filter (hasAt ds (.mk k t z A' n' c' ks'))).length ≤ 1000000 by
        have h1 := HFr.out.len
        have h2 := List.length_filter_le (hasAt ds (.mk k t z A' n' c' ks')) r
        omega)
      have HOa := Lib.hid (HOr.out.alloc (.cells #[.int .u8 (k : Int), .string ⟨t.toArray⟩, .int .i64 z, .slice A' n' c'] 39))
      clear hq
      go_wp2_with fail
      refine HCON.out.mono ?_
      rintro e w2 ⟨v2, rfl, hO2, hb2⟩
      have HO2 := Lib.hid hO2
      have HOu := Lib.hid (HOa.out.below hb2)
      have HB2 := Lib.hid (HB1.out.trans (hb2.mono HB1.out.size))
      clear hO2 hb2
      have HLS := Lib.hid (segLess_any B0 _ v2 r _ w2 (Nat.le_trans hB HB2.out.size) HOu.out HO2.out HL2.out)
      rw [HLF.out] at HLS
      go_wp2_with fail
      refine HLS.out.mono ?_
      rintro e w3 ⟨v3, rfl, hO3, hb3⟩
      have HO3 := Lib.hid hO3
      have HB3 := Lib.hid (HB2.out.trans (hb3.mono HB2.out.size))
      clear hO3 hb3
      go_wp2
      go_roundw
      case rel => exact ⟨j + 1, _, by go_num, by omega, HO3, HF2, HE2, HB3⟩
      case measure => simp [intOf]; omega
    · have HX := Lib.hid (show r = l.filter (fun x => !oneAt ds ks x) by rw [HE.out, List.drop_eq_nil_of_le (by have := HN.out; omega), one_nil])
      have HLS := Lib.hid (segLess_any B0 v _ l r wr (Nat.le_trans hB HBr.out.size) (HO.out.below HBr.out) HOr.out (by have := HF.out.len; have := HFr.out.len; omega))
      have HY := Lib.hid (show M.lessL l r = l.filter (oneAt ds ks) by rw [HX.out, less_filter HF.out.1]; congr 1; funext x; simp)
      rw [HY.out] at HLS
      go_wp2_with fail
      refine HLS.out.mono ?_
      rintro e w3 ⟨v3, rfl, hO3, hb3⟩
      have HO3 := Lib.hid hO3
      have HB3 := Lib.hid (HBr.out.trans (hb3.mono HBr.out.size))
      clear hO3 hb3
      go_wp2
      go_ret
      exact ⟨_, rfl, HO3.out, HB3.out⟩

set_option maxHeartbeats 2000000 in
theorem segNot_any (w0 : World) (g : Nat) (ds : List M.D) (hl : ds.length ≤ 4096) (A : Option Addr) (n c : Nat) (ks : List Q) (hr : Q.Row w0 w0.heap.size A n c ks) (ih : ∀ q ∈ ks, AnswerAt w0 g ds q)
    (B0 : Nat) (v : Value) (l : List Int) (w : World) (hb : Below w0.heap.size w0 w) (hB : B0 ≤ w.heap.size) (ho : OwnV w B0 3 v (ints l)) (hf : Fine ds l) :
    Calls Tryd.prog 63 #[.pointer (some ⟨g, 0, none⟩), .slice A n c, v] w (GivesF B0 w (l.filter fun x => decide (ks.length = 1) && !oneAt ds ks x)) := by
  have hc := hr.2.1; have hm := hr.2.2.1
  by_cases h1 : n = 1
  · subst h1
    have HN := Lib.hid hr.1
    obtain ⟨b, off, k, t, z, A', n', c', ks', rfl, hbB, hq, c0, c1, c2, c3⟩ := (hr.below hb).at_ (show 0 < 1 by omega)
    have HCON := Lib.hid (ih _ (List.mem_of_getElem? hq) B0 v l w hb hB ho hf)
    have HX := Lib.hid (show l.filter (fun x => decide (ks.length = 1) && !oneAt ds ks x) = M.lessL l (l.filter (hasAt ds (.mk k t z A' n' c' ks'))) by
      rw [less_filter hf.1]
      have h1 : ks.length = 1 := HN.out.symm
      match ks, h1, hq with
      | [q], _, hq =>
        simp at hq
        subst hq
        congr 1
        funext x
        unfold oneAt hasAt
        rw [Q.hasOne1]
        simp)
    rw [HX.out]
    have HL2 := Lib.hid (show l.length + (l.filter (hasAt ds (.mk k t z A' n' c' ks'))).length ≤ 1000000 by
      have h1 := hf.len
      have h2 := List.length_filter_le (hasAt ds (.mk k t z A' n' c' ks')) l
      omega)
    have HO := Lib.hid ho
    rw [Nat.zero_mul, Nat.add_zero] at c0 c1 c2 c3
    clear hq hr ih hb ho hf
    go_enter Tryd.func63, Tryd.ntmps63
    go_wp2_with fail
    refine HCON.out.mono ?_
    rintro e w2 ⟨v2, rfl, hO2, hb2⟩
    have HLS := Lib.hid (segLess_any B0 v v2 l _ w2 (Nat.le_trans hB hb2.size) (HO.out.below hb2) hO2 HL2.out)
    have HB2 := Lib.hid hb2
    clear hO2 hb2
    go_wp2_with fail
    refine HLS.out.mono ?_
    rintro e w3 ⟨v3, rfl, hO3, hb3⟩
    have HO3 := Lib.hid hO3
    have HB3 := Lib.hid (HB2.out.trans (hb3.mono HB2.out.size))
    clear hO3 hb3
    go_wp2
    go_ret
    exact ⟨_, rfl, HO3.out, HB3.out⟩
  · have hq1 : ((n : Int) == 1) = false := by simp; omega
    have hq2 : ((n : Int) != 1) = true := by simp; omega
    have HX := Lib.hid (show l.filter (fun x => decide (ks.length = 1) && !oneAt ds ks x) = [] by
      have : ¬ ks.length = 1 := by have := hr.1; omega
      simp [this])
    clear hr ih hb ho hf
    go_enter Tryd.func63, Tryd.ntmps63
    go_wp2
    go_ret
    exact ⟨_, rfl, by rw [HX.out]; exact OwnV.nil _ _ _, Below.refl _ _⟩
end Go.Proofs.YthhgelaifapmmaaDoor
