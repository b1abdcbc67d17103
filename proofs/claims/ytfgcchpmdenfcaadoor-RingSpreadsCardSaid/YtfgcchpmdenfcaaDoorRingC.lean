/-
  What ring.Shard does, by a contract.
-/
import Derived.Test.YtfgcchpmdenfcaaDoorRingB
namespace Go.Proofs.YtfgcchpmdenfcaaDoor
open Go.RowKit Mem
set_option linter.unusedVariables false
set_option maxRecDepth 100000

def SaysSh (a e : Int) (w : World) (x : Ending) (w' : World) : Prop := x = .returned (.tuple #[.int .i64 a, .int .i64 e]) ∧ w' = w

theorem way_pt (h s k : Nat) (hk : k < 16) : M.way h (16 * s + k) = M.far (M.hash (M.label s k)) h := by
  unfold M.way M.pt
  rw [show (16 * s + k) / 16 = s from by omega, show (16 * s + k) % 16 = k from by omega]
theorem far_form (x h : Nat) (hx : x < 18446744073709551616) (hh : h < 18446744073709551616) : IntKind.u64.wrap ((x : Int) - (h : Int)) = ((M.far x h : Nat) : Int) := by
  unfold M.far
  simp [IntKind.wrap, IntKind.signed, IntKind.bits]
  omega

theorem shard_bad (id : ByteArray) (n : Int) (hn : n < 1 ∨ 8 < n) (w : World) : Calls Tryd.prog 7 #[.string id, .int .i64 n] w (SaysSh 0 1 w) := by
  by_cases h1 : n < 1
  · go_enter Tryd.func7, Tryd.ntmps7
    go_wp2
    go_ret2
    exact ⟨rfl, rfl⟩
  · have h2 : 8 < n := by omega
    clear hn
    go_enter Tryd.func7, Tryd.ntmps7
    go_wp2
    go_ret2
    exact ⟨rfl, rfl⟩

set_option maxHeartbeats 2000000 in
theorem shard_ok (id : ByteArray) (n : Nat) (h1 : 1 ≤ n) (h8 : n ≤ 8) (w : World) (hs : id.size ≤ 9223372036854775806) : Calls Tryd.prog 7 #[.string id, .int .i64 (n : Int)] w (SaysSh (M.shard (bl id) n : Nat) 0 w) := by
  have HH := Lib.hid (hash_any id w hs)
  obtain ⟨h, hh⟩ : ∃ h, h = M.hash (bl id) := ⟨_, rfl⟩
  have hlt : h < 18446744073709551616 := by rw [hh]; exact M.hash_lt _
  have HE := Lib.hid (show M.shard (bl id) n = (M.best (M.way h) (16 * n)).1 by rw [hh]; rfl)
  rw [← hh] at HH
  clear hh
  obtain ⟨f, hf⟩ : ∃ f, f = M.way h := ⟨_, rfl⟩
  rw [← hf] at HE
  have HF := Lib.hid hf
  clear hf
  have H0 := Lib.hid (M.best_zero f)
  go_enter Tryd.func7, Tryd.ntmps7
  go_wp2_with fail
  refine HH.out.mono ?_
  rintro e w1 ⟨rfl, rfl⟩
  clear HH
  go_wp2
  go_loopw [7, 8, 21] (fun va vm p wr => ∃ s a m : Nat, p = .int .i64 (s : Int) ∧ va = .int .i64 (a : Int) ∧ vm = .int .u64 (m : Int) ∧ s ≤ n ∧ m < 18446744073709551616 ∧ Hid (M.best f (16 * s) = (a, m)) ∧ wr = w1) (fun _ _ p _ => n - (intOf p).toNat)
  case atStart => exact ⟨0, 0, 18446744073709551615, rfl, rfl, rfl, Nat.zero_le _, by omega, H0, rfl⟩
  case round =>
    obtain ⟨s, a, m, rfl, rfl, rfl, hsn, hm, HB, rfl⟩ := hrel
    by_cases hlt2 : s < n
    · go_wp2
      go_loopw [7, 8, 24] (fun va vm p w2 => ∃ k a m : Nat, p = .int .i64 (k : Int) ∧ va = .int .i64 (a : Int) ∧ vm = .int .u64 (m : Int) ∧ k ≤ 16 ∧ m < 18446744073709551616 ∧ Hid (M.best f (16 * s + k) = (a, m)) ∧ w2 = wr) (fun _ _ p _ => 16 - (intOf p).toNat)
      case atStart => exact ⟨0, a, m, rfl, rfl, rfl, Nat.zero_le _, hm, HB, rfl⟩
      case round =>
        clear HB
        obtain ⟨k, a, m, rfl, rfl, rfl, hk, hm, HB, rfl⟩ := hrel
        by_cases hlt3 : k < 16
        · have HS := Lib.hid (M.best_succ f (16 * s + k))
          rw [HB.out] at HS
          have hft : f (16 * s + k) = M.far (M.hash (M.label s k)) h := by rw [HF.out, way_pt _ _ _ hlt3]
          have hd : (16 * s + k) / 16 = s := by omega
          rw [hd] at HS
          obtain ⟨x, hx⟩ : ∃ x, x = M.hash (M.label s k) := ⟨_, rfl⟩
          have hxl : x < 18446744073709551616 := by rw [hx]; exact M.hash_lt _
          have HP := Lib.hid (point_any s k (by omega) (by omega) wr)
          rw [← hx] at HP hft
          clear hx hd
          have HD := Lib.hid (far_form x h hxl hlt)
          rw [← hft] at HD
          obtain ⟨d, hd⟩ : ∃ d, d = f (16 * s + k) := ⟨_, rfl⟩
          have hdl : d < 18446744073709551616 := by rw [hd, hft]; exact Nat.mod_lt _ (by omega)
          rw [← hd] at HS HD
          clear hd hft
          by_cases hc : d < m
          · have HS2 := Lib.hid (show M.best f (16 * s + (k + 1)) = (s, d) from HS.out.trans (if_pos hc))
            go_wp2_with fail
            refine HP.out.mono ?_
            rintro e w3 ⟨rfl, rfl⟩
            have HD2 := HD.out
            go_wp2
            exact ⟨⟨k + 1, s, d, by go_num, rfl, rfl, by omega, hdl, HS2, trivial⟩, by simp [intOf]; omega⟩
          · have HS2 := Lib.hid (show M.best f (16 * s + (k + 1)) = (a, m) from HS.out.trans (if_neg hc))
            go_wp2_with fail
            refine HP.out.mono ?_
            rintro e w3 ⟨rfl, rfl⟩
            have HD2 := HD.out
            go_wp2
            exact ⟨⟨k + 1, a, m, by go_num, rfl, rfl, by omega, hm, HS2, trivial⟩, by simp [intOf]; omega⟩
        · obtain rfl : k = 16 := by omega
          have HB2 := Lib.hid (show M.best f (16 * (s + 1)) = (a, m) by rw [← HB.out]; congr 1)
          go_wp2
          exact ⟨⟨s + 1, a, m, by go_num, rfl, rfl, by omega, hm, HB2, trivial⟩, by simp [intOf]; omega⟩
    · obtain rfl : s = n := by omega
      have HE2 := Lib.hid (show M.shard (bl id) s = a by rw [HE.out, HB.out])
      go_wp2
      go_ret2
      exact ⟨by rw [HE2.out]; rfl, rfl⟩

/-! ### the document's -/
set_option maxHeartbeats 2000000 in
theorem ref_shard_ok (id : ByteArray) (n : Nat) (h1 : 1 ≤ n) (h8 : n ≤ 8) (w : World) (hs : id.size ≤ 9223372036854775806) : Calls Tryd.prog 8 #[.string id, .int .i64 (n : Int)] w fun e w' => e = .returned (.int .i64 ((M.shard (bl id) n : Nat) : Int)) ∧ Below w.heap.size w w' := by
  have HH := Lib.hid (ref_hash_any id w hs)
  obtain ⟨h, hh⟩ : ∃ h, h = M.hash (bl id) := ⟨_, rfl⟩
  have hlt : h < 18446744073709551616 := by rw [hh]; exact M.hash_lt _
  have HE := Lib.hid (show M.shard (bl id) n = (M.best (M.way h) (16 * n)).1 by rw [hh]; rfl)
  rw [← hh] at HH
  clear hh
  obtain ⟨f, hf⟩ : ∃ f, f = M.way h := ⟨_, rfl⟩
  rw [← hf] at HE
  have HF := Lib.hid hf
  have H1 := Lib.hid (M.best_one f (by rw [hf]; exact M.way_lt _ _))
  clear hf
  go_enter Tryd.func8, Tryd.ntmps8
  go_wp2_with fail
  refine HH.out.mono ?_
  rintro e w1 ⟨rfl, rfl⟩
  clear HH
  go_wp2
  go_loopw [6, 7, 8] (fun va vm p wr => ∃ (s m : Nat) (a : Int), p = .int .i64 (s : Int) ∧ va = .int .i64 a ∧ vm = .int .u64 (m : Int) ∧ s ≤ n ∧ m < 18446744073709551616 ∧ -1 ≤ a ∧ a ≤ 8 ∧ Hid ((s = 0 ∧ a = -1) ∨ ∃ b : Nat, a = (b : Int) ∧ M.best f (16 * s) = (b, m)) ∧ Below w1.heap.size w1 wr) (fun _ _ p _ => n - (intOf p).toNat)
  case atStart => exact ⟨0, 0, -1, rfl, rfl, rfl, Nat.zero_le _, by omega, by omega, by omega, Lib.hid (.inl ⟨rfl, rfl⟩), Below.refl _ _⟩
  case round =>
    obtain ⟨s, m, a, rfl, rfl, rfl, hsn, hm, ha1, ha2, HB, HW⟩ := hrel
    by_cases hlt2 : s < n
    · go_wp2
      go_loopw [6, 7, 9] (fun va vm p w2 => ∃ (k m : Nat) (a : Int), p = .int .i64 (k : Int) ∧ va = .int .i64 a ∧ vm = .int .u64 (m : Int) ∧ k ≤ 16 ∧ m < 18446744073709551616 ∧ -1 ≤ a ∧ a ≤ 8 ∧ Hid ((s = 0 ∧ k = 0 ∧ a = -1) ∨ ∃ b : Nat, a = (b : Int) ∧ M.best f (16 * s + k) = (b, m)) ∧ Below w1.heap.size w1 w2) (fun _ _ p _ => 16 - (intOf p).toNat)
      case atStart => exact ⟨0, m, a, rfl, rfl, rfl, Nat.zero_le _, hm, ha1, ha2, Lib.hid (HB.out.imp (fun h => ⟨h.1, rfl, h.2⟩) (fun h => h)), HW⟩
      case round =>
        clear HB HW hm ha1 ha2
        obtain ⟨k, m, a, rfl, rfl, rfl, hk, hm, ha1, ha2, HB, HW⟩ := hrel
        by_cases hlt3 : k < 16
        · have HS := Lib.hid (M.best_succ f (16 * s + k))
          have hft : f (16 * s + k) = M.far (M.hash (M.label s k)) h := by rw [HF.out, way_pt _ _ _ hlt3]
          have hd : (16 * s + k) / 16 = s := by omega
          rw [hd] at HS
          obtain ⟨x, hx⟩ : ∃ x, x = M.hash (M.label s k) := ⟨_, rfl⟩
          have HX := Lib.hid hx
          have hxl : x < 18446744073709551616 := by rw [hx]; exact M.hash_lt _
          have HP1 := Lib.hid (ref_dec_any s (by omega) wr)
          have HP2 := Lib.hid (fun w2 => ref_dec_any k (by omega) w2)
          rw [← hx] at hft
          clear hx hd
          have HD := Lib.hid (far_form x h hxl hlt)
          rw [← hft] at HD
          obtain ⟨d, hd⟩ : ∃ d, d = f (16 * s + k) := ⟨_, rfl⟩
          have hdl : d < 18446744073709551616 := by rw [hd, hft]; exact Nat.mod_lt _ (by omega)
          have HDD := Lib.hid hd
          rw [← hd] at HS HD
          clear hd hft
          obtain ⟨d1, hd1⟩ : ∃ d, d = M.dg2 s := ⟨_, rfl⟩
          obtain ⟨d2, hd2⟩ : ∃ d, d = M.dg2 k := ⟨_, rfl⟩
          have HL := Lib.hid (show M.label s k = [115, 104, 97, 114, 100, 45] ++ d1 ++ [45] ++ d2 by rw [hd1, hd2]; rfl)
          have l1 := dg2_len s
          have l2 := dg2_len k
          rw [← hd1] at HP1 l1
          rw [← hd2] at HP2 l2
          clear hd1 hd2
          go_wp2_with fail
          refine HP1.out.mono ?_
          rintro e w2 ⟨rfl, hb2⟩
          have HW2 := Lib.hid (HW.trans (hb2.mono HW.size))
          clear hb2
          go_wp2_with fail
          refine (HP2.out w2).mono ?_
          rintro e w3 ⟨rfl, hb3⟩
          have HW3 := Lib.hid (HW2.out.trans (hb3.mono HW2.out.size))
          clear hb3
          go_wp2_with fail
          have HSS := Lib.hid (show (⟨#[115, 104, 97, 114, 100, 45]⟩ : ByteArray) ++ ⟨d1.toArray⟩ ++ ⟨#[45]⟩ ++ ⟨d2.toArray⟩ = ⟨(M.label s k).toArray⟩ by
            rw [HL.out, show (⟨#[115, 104, 97, 114, 100, 45]⟩ : ByteArray) = ⟨([115, 104, 97, 114, 100, 45] : List UInt8).toArray⟩ from rfl, show (⟨#[45]⟩ : ByteArray) = ⟨([45] : List UInt8).toArray⟩ from rfl, bytes_app, bytes_app, bytes_app])
          have HZ := Lib.hid (show (M.label s k).length ≤ 11 by rw [HL.out]; simp; omega)
          generalize (⟨#[115, 104, 97, 114, 100, 45]⟩ : ByteArray) ++ ⟨d1.toArray⟩ ++ ⟨#[45]⟩ ++ ⟨d2.toArray⟩ = bs at *
          have HXB := Lib.hid (show M.hash (bl bs) = x by rw [HSS.out, HX.out])
          refine (ref_hash_any bs w3 ?_).mono ?_
          · rw [HSS.out]
            show (M.label s k).toArray.size ≤ _
            have := HZ.out
            simp; omega
          rintro e w4 ⟨rfl, rfl⟩
          rw [HXB.out]
          have HD2 := HD.out
          clear HXB HZ HSS HL HX HP1 HP2
          rcases HB.out with ⟨h0, h00, rfl⟩ | ⟨b, rfl, hbe⟩
          · have HS2 := Lib.hid (show M.best f (16 * s + (k + 1)) = (s, d) by rw [HDD.out, h0, h00]; exact H1.out)
            clear h0 h00 HB HS
            go_wp2
            exact ⟨⟨k + 1, d, s, by go_num, rfl, rfl, by omega, hdl, by omega, by omega, Lib.hid (.inr ⟨s, rfl, HS2.out⟩), HW3.out⟩, by simp [intOf]; omega⟩
          · rw [hbe] at HS
            clear hbe HB
            by_cases hc : d < m
            · have HS2 := Lib.hid (show M.best f (16 * s + (k + 1)) = (s, d) from HS.out.trans (if_pos hc))
              go_wp2
              exact ⟨⟨k + 1, d, s, by go_num, rfl, rfl, by omega, hdl, by omega, by omega, Lib.hid (.inr ⟨s, rfl, HS2.out⟩), HW3.out⟩, by simp [intOf]; omega⟩
            · have HS2 := Lib.hid (show M.best f (16 * s + (k + 1)) = (b, m) from HS.out.trans (if_neg hc))
              go_wp2
              exact ⟨⟨k + 1, m, b, by go_num, rfl, rfl, by omega, hm, by omega, by omega, Lib.hid (.inr ⟨b, rfl, HS2.out⟩), HW3.out⟩, by simp [intOf]; omega⟩
        · obtain rfl : k = 16 := by omega
          obtain ⟨b, rfl, hbe⟩ := HB.out.resolve_left (fun h => by omega)
          have HB2 := Lib.hid (show M.best f (16 * (s + 1)) = (b, m) by rw [← hbe]; congr 1)
          clear hbe HB
          go_wp2
          exact ⟨⟨s + 1, m, b, by go_num, rfl, rfl, by omega, hm, by omega, by omega, Lib.hid (.inr ⟨b, rfl, HB2.out⟩), HW⟩, by simp [intOf]; omega⟩
    · obtain rfl : s = n := by omega
      obtain ⟨b, rfl, hbe⟩ := HB.out.resolve_left (fun h => by omega)
      have HE2 := Lib.hid (show M.shard (bl id) s = b by rw [HE.out, hbe])
      clear hbe HB
      go_wp2
      go_ret
      exact ⟨by rw [HE2.out]; rfl, HW⟩
end Go.Proofs.YtfgcchpmdenfcaaDoor
