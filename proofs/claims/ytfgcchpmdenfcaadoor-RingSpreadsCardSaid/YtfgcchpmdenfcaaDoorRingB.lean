/-
  What ring.point and the document's dec do, by contracts.
-/
import Derived.Test.YtfgcchpmdenfcaaDoorRingA
import Derived.Test.YtfgcchpmdenfcaaDoorShelf
namespace Go.Proofs.YtfgcchpmdenfcaaDoor
open Go.RowKit Mem
set_option linter.unusedVariables false
set_option maxRecDepth 100000

theorem dg2_dec (n : Nat) (h : n < 100) : Lib.decDigits n = M.dg2 n := by
  unfold M.dg2
  by_cases h1 : n < 10
  · rw [Lib.decDigits, dif_pos h1, if_pos h1]
  · rw [Lib.decDigits, dif_neg h1, if_neg h1, Lib.decDigits, dif_pos (by omega)]; rfl
theorem dg2_len (n : Nat) : (M.dg2 n).length ≤ 2 := by unfold M.dg2; split <;> simp

theorem bytes_app (a b : List UInt8) : (⟨a.toArray⟩ : ByteArray) ++ ⟨b.toArray⟩ = ⟨(a ++ b).toArray⟩ := by
  apply ByteArray.ext
  show (ByteArray.append ⟨a.toArray⟩ ⟨b.toArray⟩).data = _
  simp [ByteArray.append]

theorem bel_alloc' (w : World) (o : Obj) : Below w.heap.size w (w.alloc o) := (Below.refl _ w).alloc (Nat.le_refl _) _
/-- string(..) of a row that has just been laid -/
theorem conv_fresh (w : World) (l : List UInt8) (cs : Array Value) (hcs : cs.toList = bcells l) (hn : l.length ≤ 9223372036854775807) :
    (convert 32 9 (.slice (some ⟨w.heap.size, 0, none⟩) l.length l.length)).run Tryd.prog (w.alloc (.cells cs 5)) = .ok (.string ⟨l.toArray⟩) (w.alloc (.cells cs 5)) :=
  run_str (P := Tryd.prog) _ (w.heap.size + 1) 32 9 5 Tryd.underlying32 Tryd.underlying5 Tryd.underlying9 _ _ _ _ (Rd.fresh w cs _ (0, 0) l hcs hn)

set_option maxHeartbeats 1000000 in
theorem point_any (s k : Nat) (hs : s < 100) (hk : k < 100) (w : World) : Calls Tryd.prog 11 #[.int .i64 (s : Int), .int .i64 (k : Int)] w fun e w' => e = .returned (.int .u64 (M.hash (M.label s k) : Nat)) ∧ w' = w := by
  have H1 := Lib.hid (Tryd.strconv_Itoa_small s hs w)
  have H2 := Lib.hid (Tryd.strconv_Itoa_small k hk w)
  rw [dg2_dec _ hs] at H1
  rw [dg2_dec _ hk] at H2
  have l1 := dg2_len s
  have l2 := dg2_len k
  obtain ⟨d1, h1⟩ : ∃ d, d = M.dg2 s := ⟨_, rfl⟩
  obtain ⟨d2, h2⟩ : ∃ d, d = M.dg2 k := ⟨_, rfl⟩
  have HL := Lib.hid (show M.label s k = [115, 104, 97, 114, 100, 45] ++ d1 ++ [45] ++ d2 by rw [h1, h2]; rfl)
  rw [← h1] at H1 l1
  rw [← h2] at H2 l2
  clear h1 h2
  go_enter Tryd.func11, Tryd.ntmps11
  go_wp2_with fail
  refine H1.out.mono ?_
  rintro e w1 ⟨rfl, rfl⟩
  go_wp2_with fail
  refine H2.out.mono ?_
  rintro e w2 ⟨rfl, rfl⟩
  go_wp2_with fail
  have HS := Lib.hid (show (⟨#[115, 104, 97, 114, 100, 45]⟩ : ByteArray) ++ ⟨d1.toArray⟩ ++ ⟨#[45]⟩ ++ ⟨d2.toArray⟩ = ⟨(M.label s k).toArray⟩ by
    rw [HL.out, show (⟨#[115, 104, 97, 114, 100, 45]⟩ : ByteArray) = ⟨([115, 104, 97, 114, 100, 45] : List UInt8).toArray⟩ from rfl, show (⟨#[45]⟩ : ByteArray) = ⟨([45] : List UInt8).toArray⟩ from rfl, bytes_app, bytes_app, bytes_app])
  have HZ := Lib.hid (show (M.label s k).length ≤ 11 by rw [HL.out]; simp; omega)
  generalize (⟨#[115, 104, 97, 114, 100, 45]⟩ : ByteArray) ++ ⟨d1.toArray⟩ ++ ⟨#[45]⟩ ++ ⟨d2.toArray⟩ = bs at *
  have HX := Lib.hid (show M.hash (bl bs) = M.hash (M.label s k) by rw [HS.out])
  refine (hash_any bs w2 ?_).mono ?_
  · rw [HS.out]
    show (M.label s k).toArray.size ≤ _
    have := HZ.out
    simp; omega
  rintro e w3 ⟨rfl, rfl⟩
  rw [HX.out]
  obtain ⟨x, hx⟩ : ∃ x, x = M.hash (M.label s k) := ⟨_, rfl⟩
  have HXX := Lib.hid hx
  rw [← hx]
  clear hx HX
  go_wp2
  go_ret
  exact ⟨by rw [← HXX.out]; rfl, rfl⟩

set_option maxHeartbeats 1000000 in
theorem ref_dec_any (n : Nat) (h : n < 100) (w : World) : Calls Tryd.prog 12 #[.int .i64 (n : Int)] w fun e w' => e = .returned (.string ⟨(M.dg2 n).toArray⟩) ∧ Below w.heap.size w w' := by
  obtain ⟨l, hl⟩ : ∃ l, l = M.dg2 n := ⟨_, rfl⟩
  have HL := Lib.hid hl
  by_cases h1 : n < 10
  · have hd : l = [UInt8.ofNat (48 + n)] := by rw [hl]; unfold M.dg2; rw [if_pos h1]
    have hc : (convert 32 9 (.slice (some ⟨w.heap.size, 0, none⟩) 1 1)).run Tryd.prog (w.alloc (.cells #[.int .u8 (48 + (n : Int))] 5)) = .ok (.string ⟨l.toArray⟩) (w.alloc (.cells #[.int .u8 (48 + (n : Int))] 5)) := by
      have := conv_fresh w l #[.int .u8 (48 + (n : Int))] (by rw [hd]; simp [bcells, bcell]; omega) (by rw [hd]; simp)
      rw [hd] at this ⊢
      exact this
    clear hd hl
    go_enter Tryd.func12, Tryd.ntmps12
    go_wp2
    go_ret
    exact ⟨by rw [← HL.out]; rfl, bel_alloc' _ _⟩
  · have hd : l = [UInt8.ofNat (48 + n / 10), UInt8.ofNat (48 + n % 10)] := by rw [hl]; unfold M.dg2; rw [if_neg h1]
    have hc : (convert 32 9 (.slice (some ⟨w.heap.size, 0, none⟩) 2 2)).run Tryd.prog (w.alloc (.cells #[.int .u8 (48 + (n : Int) / 10), .int .u8 (48 + (n : Int) % 10)] 5)) = .ok (.string ⟨l.toArray⟩) (w.alloc (.cells #[.int .u8 (48 + (n : Int) / 10), .int .u8 (48 + (n : Int) % 10)] 5)) := by
      have := conv_fresh w l #[.int .u8 (48 + (n : Int) / 10), .int .u8 (48 + (n : Int) % 10)] (by rw [hd]; simp [bcells, bcell]; omega) (by rw [hd]; simp)
      rw [hd] at this ⊢
      exact this
    clear hd hl
    go_enter Tryd.func12, Tryd.ntmps12
    go_wp2
    go_ret
    exact ⟨by rw [← HL.out]; rfl, bel_alloc' _ _⟩
end Go.Proofs.YtfgcchpmdenfcaaDoor
