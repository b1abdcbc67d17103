/-
  Joined: PackA PackB PackC PackD PackE PackF PackG PackH PackL.
-/
import Derived.Test.YthhgelaifapmmaaDoorRows
import Derived.Test.YthhgelaifapmmaaDoorMem
import Derived.Test.YthhgelaifapmmaaDoorPackMath
import Derived.Laws.BitsAllLaws
import Derived.Laws.BitsLemmas
import Derived.Lib.Hide
import Derived.Deep.DeepMust
import Derived.Deep.QuietTactic
import Derived.BigQuiet
import Derived.Deep.LoopGhost
import Derived.Lib.SlBytesConst
import Derived.Test.YthhgelaifapmmaaDoorMemB
import Derived.Test.YthhgelaifapmmaaDoorFrameMath
import Derived.Deep.RegionHeld
namespace Go.Proofs.YthhgelaifapmmaaDoor
open Go.RowKit Mem

theorem Tryd.info_byte : (Tryd.prog.info? 5).map (fun i => (i.zero, i.size, i.bytes)) = some (some (.int .u8 0), 1, 1) := by kernel_rfl

theorem or128 (k : Nat) : bits .or .u8 ((k : Int) % 256) 128 = ((k % 128 + 128 : Nat) : Int) := by
  have h : ∀ x : Fin 256, x.val ||| 128 = x.val % 128 + 128 := by decide +kernel
  have h1 := h ⟨k % 256, Nat.mod_lt _ (by omega)⟩
  have e : ((k : Int) % 256) = ((k % 256 : Nat) : Int) := by omega
  rw [e, show (128 : Int) = ((128 : Nat) : Int) from rfl, u8_or_nat _ _ (Nat.mod_lt _ (by omega)) (by omega), h1]
  simp only [Nat.mod_mod_of_dvd k (show 128 ∣ 256 from ⟨2, rfl⟩)]

/-- what is left of a number behind some of its bytes -/
def Left (v u : Nat) (l : List UInt8) : Prop := ∃ f, M.uv v = l ++ M.uvF f u ∧ u < 2 ^ (7 * f + 1) ∧ l.length + f = 9
theorem Left.start {v : Nat} (h : v < 18446744073709551616) : Left v v [] := ⟨9, rfl, by simpa using h, rfl⟩
theorem Left.step {v u : Nat} {l : List UInt8} (h : Left v u l) (hu : 127 < u) : Left v (u / 128) (l ++ [M.hb u]) ∧ l.length ≤ 9 := by
  obtain ⟨f, h1, h2, h3⟩ := h
  cases f with
  | zero => simp at h2; omega
  | succ f =>
    refine ⟨⟨f, ?_, ?_, by simp; omega⟩, by omega⟩
    · rw [h1, M.uvF_big _ _ (by omega)]; simp [M.hb]
    · have e : 2 ^ (7 * (f + 1) + 1) = 128 * 2 ^ (7 * f + 1) := by
        rw [show 7 * (f + 1) + 1 = (7 * f + 1) + 7 from by omega, Nat.pow_add]; omega
      rw [e] at h2; omega
theorem Left.last {v u : Nat} {l : List UInt8} (h : Left v u l) (hu : ¬ 127 < u) : M.uv v = l ++ [M.lb u] ∧ l.length ≤ 9 := by
  obtain ⟨f, h1, _, h3⟩ := h
  exact ⟨by rw [h1, M.uvF_small _ _ (by omega)]; rfl, by omega⟩

/-- new bytes l, and nothing that was there has turned -/
def Gives (w : World) (l : List UInt8) (e : Ending) (w' : World) : Prop := ∃ v, e = .returned v ∧ Own w' w.heap.size 5 v l ∧ Below w.heap.size w w'

set_option maxRecDepth 100000 in
set_option maxHeartbeats 400000 in
theorem uvarint_any (v : Nat) (w : World) (hv : v < 18446744073709551616) :
    Calls Tryd.prog 52 #[.int .u64 v] w (Gives w (M.uv v)) := by
  obtain ⟨i0, hi, hz0, hz1, hz2⟩ := info_parts Tryd.info_byte
  have HI := Lib.hid hi; have HZ0 := Lib.hid hz0; have HZ1 := Lib.hid hz1; have HZ2 := Lib.hid hz2
  clear hi hz0 hz1 hz2
  go_enter Tryd.func52, Tryd.ntmps52
  go_wp2
  go_loopw [0, 3] (fun u p wr => ∃ (k : Nat) (l : List UInt8), u = .int .u64 k ∧ k < 18446744073709551616 ∧ Left v k l ∧ Own wr w.heap.size 5 p l ∧ Below w.heap.size w wr) (fun u _ _ => (intOf u).toNat)
  case atStart => exact ⟨v, [], rfl, hv, Left.start hv, Own.nil _ _ _, Below.refl _ _⟩
  case round =>
    obtain ⟨k, l, rfl, hk, hleft, hown, hbel⟩ := hrel
    have HOR := Lib.hid (or128 k)
    by_cases h : 127 < k
    · obtain ⟨hl', hlen⟩ := hleft.step h
      have hdiv : k / 128 < k := by omega
      go_wp2_with (at_builtin; go_must (refine wpList_app1 wr rfl (.tmp 6) (.tmp 10) _ rfl w.heap.size _ i0 Tryd.underlying24 HI.out HZ0.out HZ1.out HZ2.out _ l hown rfl _ (M.hb k) rfl ?_ ?_ hbel.size ?_))
      · rw [HOR.out, M.hb_toNat]
      · omega
      intro v' w1 hown' hg hat
      have hb1 := hbel.trans (below_own hown hbel.size hg)
      go_wp2
      go_roundw
      case rel => exact ⟨k / 128, _, by go_num, by omega, hl', hown', hb1⟩
      case measure => simp [intOf]; omega
    · obtain ⟨hl', hlen⟩ := hleft.last h
      have HL := Lib.hid hl'
      clear hl'
      go_wp2_with (at_builtin; go_must (refine wpList_app1 wr rfl (.tmp 14) (.tmp 17) _ rfl w.heap.size _ i0 Tryd.underlying24 HI.out HZ0.out HZ1.out HZ2.out _ l hown rfl _ (M.lb k) rfl ?_ ?_ hbel.size ?_))
      · rw [M.lb_toNat (by omega)]
      · omega
      intro v' w1 hown' hg hat
      have hb1 := hbel.trans (below_own hown hbel.size hg)
      go_wp2
      go_ret
      exact ⟨_, rfl, by rw [HL.out]; exact hown', hb1⟩

set_option maxRecDepth 100000 in
set_option maxHeartbeats 400000 in
theorem ref_uvarint_any (v : Nat) (w : World) (hv : v < 18446744073709551616) :
    Calls Tryd.prog 33 #[.int .u64 v] w (Gives w (M.uv v)) := by
  obtain ⟨i0, hi, hz0, hz1, hz2⟩ := info_parts Tryd.info_byte
  have HI := Lib.hid hi; have HZ0 := Lib.hid hz0; have HZ1 := Lib.hid hz1; have HZ2 := Lib.hid hz2
  clear hi hz0 hz1 hz2
  go_enter Tryd.func33, Tryd.ntmps33
  go_wp2
  go_loopw [0, 3] (fun u p wr => ∃ (k : Nat) (l : List UInt8), u = .int .u64 k ∧ k < 18446744073709551616 ∧ Left v k l ∧ Own wr w.heap.size 5 p l ∧ Below w.heap.size w wr) (fun u _ _ => (intOf u).toNat)
  case atStart => exact ⟨v, [], rfl, hv, Left.start hv, Own.nil _ _ _, Below.refl _ _⟩
  case round =>
    obtain ⟨k, l, rfl, hk, hleft, hown, hbel⟩ := hrel
    by_cases h : 128 ≤ k
    · obtain ⟨hl', hlen⟩ := hleft.step (show 127 < k from h)
      have hdiv : k / 128 < k := by omega
      go_wp2_with (at_builtin; go_must (refine wpList_app1 wr rfl (.tmp 6) (.tmp 11) _ rfl w.heap.size _ i0 Tryd.underlying24 HI.out HZ0.out HZ1.out HZ2.out _ l hown rfl _ (M.hb k) rfl ?_ ?_ hbel.size ?_))
      · rw [M.hb_toNat]; omega
      · omega
      intro v' w1 hown' hg hat
      have hb1 := hbel.trans (below_own hown hbel.size hg)
      go_wp2
      go_roundw
      case rel => exact ⟨k / 128, _, by go_num, by omega, hl', hown', hb1⟩
      case measure => simp [intOf]; omega
    · obtain ⟨hl', hlen⟩ := hleft.last (show ¬ 127 < k from h)
      have HL := Lib.hid hl'
      clear hl'
      go_wp2_with (at_builtin; go_must (refine wpList_app1 wr rfl (.tmp 15) (.tmp 18) _ rfl w.heap.size _ i0 Tryd.underlying24 HI.out HZ0.out HZ1.out HZ2.out _ l hown rfl _ (M.lb k) rfl ?_ ?_ hbel.size ?_))
      · rw [M.lb_toNat (by omega)]
      · omega
      intro v' w1 hown' hg hat
      have hb1 := hbel.trans (below_own hown hbel.size hg)
      go_wp2
      go_ret
      exact ⟨_, rfl, by rw [HL.out]; exact hown', hb1⟩
end Go.Proofs.YthhgelaifapmmaaDoor

namespace Go.Proofs.YthhgelaifapmmaaDoor
open Go.RowKit Mem

def Tells (r : Nat × Nat × Nat) (w : World) (e : Ending) (w' : World) : Prop := e = .returned (.tuple #[.int .u64 (r.1 : Int), .int .i64 (r.2.1 : Int), .int .i64 (r.2.2 : Int)]) ∧ w = w'

theorem ret_t3 {k1 k2 k3 : IntKind} {a b c a' b' c' : Int} (h1 : a = a') (h2 : b = b') (h3 : c = c') : Ending.returned (.tuple #[.int k1 a, .int k2 b, .int k3 c]) = .returned (.tuple #[.int k1 a', .int k2 b', .int k3 c']) := by rw [h1, h2, h3]

theorem rdAt_arg {l : List UInt8} {at_ : Int} (h : at_ < 0 ∨ (l.length : Int) < at_) : M.rdAt l at_ = (0, 0, 1) := by unfold M.rdAt; rw [if_pos h]
theorem rdAt_in {l : List UInt8} {k : Nat} (h : k ≤ l.length) : M.rdAt l k = match M.rd 0 0 (l.drop k) with | none => (0, 0, 3) | some (v, n) => (v, k + n, 0) := by
  unfold M.rdAt; rw [if_neg (by omega)]; rfl

/-- behind j bytes of value V what is left to be read gives the answer -/
def Scan (l : List UInt8) (k j V : Nat) : Prop := M.rd 0 0 (l.drop k) = M.rd j V (l.drop (k + j)) ∧ V < 2 ^ (7 * j)
theorem Scan.start (l : List UInt8) (k : Nat) : Scan l k 0 0 := ⟨rfl, by simp⟩
theorem mask127 {c : Int} (h₀ : 0 ≤ c) (h₁ : c ≤ 255) : bits .and .u8 c 127 = c % 128 := bits_mask .u8 8 (by decide) wraps_u8 7 (by decide) c h₀ (by omega)

section
variable {l : List UInt8} {k j V x : Nat}
theorem Scan.open_ (hs : Scan l k j V) (hlt : k + j < l.length) (hx : x = (l[k + j]?.getD 0).toNat) :
    M.rd 0 0 (l.drop k) = if j = 9 ∧ 1 < x then none else if x < 128 then (if x = 0 ∧ 0 < j then none else some (V + x * 2 ^ (7 * j), j + 1)) else M.rd (j + 1) (V + x % 128 * 2 ^ (7 * j)) (l.drop (k + (j + 1))) := by
  have e : l.drop (k + j) = l[k + j] :: l.drop (k + j + 1) := List.drop_eq_getElem_cons hlt
  have hxx : x = l[k + j].toNat := by rw [hx, List.getElem?_eq_getElem hlt]; rfl
  rw [hs.1, e, M.rd, ← hxx]
  rfl
theorem Scan.step (hs : Scan l k j V) (hlt : k + j < l.length) (hx : x = (l[k + j]?.getD 0).toNat) (h9 : ¬ j = 9) (h128 : ¬ x < 128) : Scan l k (j + 1) (V + x % 128 * 2 ^ (7 * j)) := by
  refine ⟨?_, ?_⟩
  · rw [hs.open_ hlt hx, if_neg (by omega), if_neg h128]
  · have h1 := hs.2
    have h2 : x % 128 * 2 ^ (7 * j) ≤ 127 * 2 ^ (7 * j) := Nat.mul_le_mul_right _ (by omega)
    rw [M.pow7]; omega
theorem Scan.cut9 (hs : Scan l k j V) (hlt : k + j < l.length) (hx : x = (l[k + j]?.getD 0).toNat) (h9 : j = 9) (h1 : 1 < x) : M.rd 0 0 (l.drop k) = none := by
  rw [hs.open_ hlt hx, if_pos ⟨h9, h1⟩]
theorem Scan.cut0 (hs : Scan l k j V) (hlt : k + j < l.length) (hx : x = (l[k + j]?.getD 0).toNat) (h0 : x = 0) (hj : 0 < j) : M.rd 0 0 (l.drop k) = none := by
  rw [hs.open_ hlt hx, if_neg (by omega), if_pos (by omega), if_pos ⟨h0, hj⟩]
theorem Scan.done (hs : Scan l k j V) (hlt : k + j < l.length) (hx : x = (l[k + j]?.getD 0).toNat) (h9 : ¬ (j = 9 ∧ 1 < x)) (h128 : x < 128) (h0 : ¬ (x = 0 ∧ 0 < j)) :
    M.rd 0 0 (l.drop k) = some (V + x * 2 ^ (7 * j), j + 1) := by
  rw [hs.open_ hlt hx, if_neg h9, if_pos h128, if_neg h0]
theorem Scan.end_ (hs : Scan l k j V) (hlt : ¬ k + j < l.length) : M.rd 0 0 (l.drop k) = none := by
  rw [hs.1, List.drop_eq_nil_of_le (by omega), M.rd]
theorem pow_le9 (hj : j ≤ 9) : 2 ^ (7 * j) ≤ 9223372036854775808 := by
  have : (2 : Nat) ^ (7 * j) ≤ 2 ^ (7 * 9) := Nat.pow_le_pow_right (by omega) (by omega)
  simpa using this
theorem pow_le8 (hj : j ≤ 8) : 2 ^ (7 * j) ≤ 72057594037927936 := by
  have : (2 : Nat) ^ (7 * j) ≤ 2 ^ (7 * 8) := Nat.pow_le_pow_right (by omega) (by omega)
  simpa using this
theorem orStep (hV : V < 2 ^ (7 * j)) (hj : j ≤ 9) (hx : x < 256) (h9 : j = 9 → x ≤ 1) :
    bits .or .u64 (V : Int) (IntKind.u64.wrap ((x : Int) % 128 * 2 ^ (7 * j))) = ((V + x % 128 * 2 ^ (7 * j) : Nat) : Int) ∧ V + x % 128 * 2 ^ (7 * j) < 18446744073709551616 := by
  have hfit : x % 128 * 2 ^ (7 * j) + 2 ^ (7 * j) ≤ 18446744073709551616 := by
    by_cases h : j = 9
    · have := h9 h
      have hp := pow_le9 hj
      have hm : x % 128 * 2 ^ (7 * j) ≤ 1 * 2 ^ (7 * j) := Nat.mul_le_mul_right _ (by omega)
      omega
    · have hp := pow_le8 (j := j) (by omega)
      have hm : x % 128 * 2 ^ (7 * j) ≤ 127 * 2 ^ (7 * j) := Nat.mul_le_mul_right _ (by omega)
      omega
  have hpos : 0 < 2 ^ (7 * j) := Nat.two_pow_pos _
  refine ⟨?_, by omega⟩
  have e : ((x : Int) % 128 * 2 ^ (7 * j)) = ((x % 128 * 2 ^ (7 * j) : Nat) : Int) := by push_cast; rfl
  rw [e, IntKind.wrap_u64, Int.emod_eq_of_lt (by omega) (by omega), u64_or_nat _ _ (by omega) (by omega), Nat.or_comm, nat_join (7 * j) _ _ (by simp) hV, Nat.add_comm]
end

set_option maxRecDepth 100000 in
set_option maxHeartbeats 400000 in
theorem readUvarint_any (A : Option Addr) (n c B : Nat) (l : List UInt8) (at_ : Int) (w : World) (h : Rd w B A n c l) (h1 : -9223372036854775808 ≤ at_) (h2 : at_ ≤ 9223372036854775807) :
    Calls Tryd.prog 59 #[.slice A n c, .int .i64 at_] w (Tells (M.rdAt l at_) w) := by
  have hn := h.len
  have hc := h.cap
  have hm := h.max
  by_cases hneg : at_ < 0
  · have HR := Lib.hid (rdAt_arg (l := l) (.inl hneg))
    have HN := Lib.hid hn
    clear hn
    go_enter Tryd.func59, Tryd.ntmps59
    go_wp2
    go_ret3
    exact ⟨by rw [HR.out]; rfl, rfl⟩
  · by_cases hbig : (n : Int) < at_
    · have HR := Lib.hid (rdAt_arg (l := l) (at_ := at_) (.inr (by omega)))
      have HN := Lib.hid hn
      clear hn
      have hd : decide (at_ < 0) = false := by simpa using hneg
      go_enter Tryd.func59, Tryd.ntmps59
      go_wp2
      go_ret3
      exact ⟨by rw [HR.out]; rfl, rfl⟩
    · obtain ⟨k, rfl⟩ := Int.eq_ofNat_of_zero_le (show 0 ≤ at_ by omega)
      have HR := Lib.hid (rdAt_in (l := l) (k := k) (by omega))
      have HN := Lib.hid hn
      clear hn
      by_cases hkn : k < n
      · obtain ⟨b, off, rfl, hb, hcells⟩ := h.2.2.2 (by omega)
        have hck : ¬ c = k := by omega
        go_enter Tryd.func59, Tryd.ntmps59
        go_wp2
        go_loop [7, 22] (fun v i => ∃ j V : Nat, i = .int .i64 j ∧ v = .int .u64 V ∧ j ≤ 9 ∧ j ≤ n - k ∧ V < 18446744073709551616 ∧ Scan l k j V) (fun _ i => n - (intOf i).toNat)
        case atStart => exact ⟨0, 0, rfl, rfl, by omega, by omega, by omega, Scan.start l k⟩
        case round =>
          obtain ⟨j, V, rfl, rfl, hj9, hjn, hV, hscan⟩ := hrel
          by_cases hlt : j < n - k
          · have hcell := hcells (k + j) (by omega)
            rw [← Nat.add_assoc] at hcell
            obtain ⟨x, hx⟩ : ∃ x, x = (l[k + j]?.getD 0).toNat := ⟨_, rfl⟩
            have hx256 : x < 256 := by rw [hx]; exact UInt8.toNat_lt _
            rw [← hx] at hcell
            have HX := Lib.hid hx
            clear hx hcells
            have HL := Lib.hid (show k + j < l.length by have := HN.out; omega)
            have hmask := mask127 (c := (x : Int)) (by omega) (by omega)
            by_cases c9 : j = 9 ∧ 1 < x
            · have HD := Lib.hid (hscan.cut9 HL.out HX.out c9.1 c9.2)
              obtain ⟨hj, hx1⟩ := c9
              have hj9' : ((j : Int) == 9) = true := by simp; omega
              have HJ := Lib.hid hj
              clear hj hscan
              go_wp2
              go_ret3
              exact ⟨by rw [HR.out, HD.out]; rfl, rfl⟩
            · have HO := Lib.hid (orStep hscan.2 hj9 hx256 (fun h => by omega))
              by_cases hx128 : x < 128
              · by_cases c0 : x = 0 ∧ 0 < j
                · have HD := Lib.hid (hscan.cut0 HL.out HX.out c0.1 c0.2)
                  obtain ⟨hx0, hj0⟩ := c0
                  have hxx : ((x : Int) == 0) = true := by simp; omega
                  have HX0 := Lib.hid hx0
                  clear hx0 hscan
                  go_wp2
                  all_goals (go_ret3; exact ⟨by rw [HR.out, HD.out]; rfl, rfl⟩)
                · have HD := Lib.hid (hscan.done HL.out HX.out c9 hx128 c0)
                  by_cases h9 : j = 9
                  · have hx1 : x = 1 := by omega
                    have hj9' : ((j : Int) == 9) = true := by simp; omega
                    have hxx : ((x : Int) == 0) = false := by simp; omega
                    have hle : ¬ 1 < x := by omega
                    have HJ := Lib.hid h9
                    have HX1 := Lib.hid hx1
                    clear hscan c9 c0 h9 hx1
                    go_wp2
                    go_ret3
                    exact ⟨by rw [HR.out, HD.out, HO.out.1, Nat.mod_eq_of_lt hx128]; simp only [Nat.add_assoc, Int.natCast_add, Int.add_assoc]; rfl, rfl⟩
                  · have hj9' : ((j : Int) == 9) = false := by simp; omega
                    by_cases h0 : x = 0
                    · have hj0 : ¬ 0 < j := by omega
                      have hxx : ((x : Int) == 0) = true := by simp; omega
                      have HX0 := Lib.hid h0
                      clear hscan c9 c0 h9 h0
                      go_wp2
                      go_ret3
                      exact ⟨by rw [HR.out, HD.out, HO.out.1, Nat.mod_eq_of_lt hx128]; simp only [Nat.add_assoc, Int.natCast_add, Int.add_assoc]; rfl, rfl⟩
                    · have hxx : ((x : Int) == 0) = false := by simp; omega
                      clear hscan c9 c0 h9
                      go_wp2
                      go_ret3
                      exact ⟨by rw [HR.out, HD.out, HO.out.1, Nat.mod_eq_of_lt hx128]; simp only [Nat.add_assoc, Int.natCast_add, Int.add_assoc]; rfl, rfl⟩
              · have hj9' : ((j : Int) == 9) = false := by simp; omega
                have HS := Lib.hid (hscan.step HL.out HX.out (by omega) hx128)
                have hj8 : j ≤ 8 := by omega
                clear hscan c9
                go_wp2
                go_round
                case rel => exact ⟨j + 1, _, by go_num, by rw [HO.out.1], by omega, by omega, HO.out.2, HS.out⟩
                case measure => simp [intOf]; omega
          · have HD := Lib.hid (hscan.end_ (by have := HN.out; omega))
            clear hscan
            go_wp2
            go_ret3
            exact ⟨by rw [HR.out, HD.out]; rfl, rfl⟩
      · have HD := Lib.hid ((Scan.start l k).end_ (by have := HN.out; omega))
        obtain rfl : k = n := by omega
        go_enter Tryd.func59, Tryd.ntmps59
        go_wp2
        all_goals
          refine wp_loop_rounds 1 ?_
          rw [rounds_succ]
          go_wp2
          go_ret3
          exact ⟨by rw [HR.out, HD.out]; rfl, rfl⟩
end Go.Proofs.YthhgelaifapmmaaDoor

namespace Go.Proofs.YthhgelaifapmmaaDoor
open Go.RowKit Mem

def TellsB (r : Nat × Nat × Nat) (w : World) (e : Ending) (w' : World) : Prop := e = .returned (.tuple #[.int .u64 (r.1 : Int), .int .i64 (r.2.1 : Int), .int .i64 (r.2.2 : Int)]) ∧ Below w.heap.size w w'

section
variable {d : List UInt8} {j x : Nat}
theorem goOn_le (d : List UInt8) : M.goOn d ≤ d.length := by unfold M.goOn; exact (List.takeWhile_sublist _).length_le
theorem goOn_more : ∀ (d : List UInt8) (j : Nat), j ≤ M.goOn d → (h : j < d.length) → 128 ≤ d[j].toNat → j + 1 ≤ M.goOn d := by
  intro d
  induction d with
  | nil => intro j _ h; simp at h
  | cons b d ih =>
    intro j hj h hb
    unfold M.goOn at hj ⊢
    rw [List.takeWhile_cons] at hj ⊢
    cases j with
    | zero => simp at hb; simp [hb]
    | succ j =>
      by_cases hp : decide (128 ≤ b.toNat) = true
      · rw [if_pos hp] at hj ⊢
        simp only [List.length_cons] at hj h ⊢
        have := ih j (by unfold M.goOn; omega) (by omega) (by simpa using hb)
        unfold M.goOn at this; omega
      · rw [if_neg hp] at hj; simp at hj
theorem goOn_stop : ∀ (d : List UInt8) (j : Nat), j ≤ M.goOn d → (h : j < d.length) → d[j].toNat < 128 → M.goOn d = j := by
  intro d
  induction d with
  | nil => intro j _ h; simp at h
  | cons b d ih =>
    intro j hj h hb
    unfold M.goOn at hj ⊢
    rw [List.takeWhile_cons] at hj ⊢
    cases j with
    | zero =>
      have : ¬ decide (128 ≤ b.toNat) = true := by simp at hb ⊢; omega
      rw [if_neg this]; rfl
    | succ j =>
      by_cases hp : decide (128 ≤ b.toNat) = true
      · rw [if_pos hp] at hj ⊢
        simp only [List.length_cons] at hj h ⊢
        have := ih j (by unfold M.goOn; omega) (by omega) (by simpa using hb)
        unfold M.goOn at this; omega
      · rw [if_neg hp] at hj; simp at hj
theorem none_long (h : 10 ≤ M.goOn d) : M.rd 0 0 d = none := by
  cases hr : M.rd 0 0 d with
  | none => rfl
  | some p => have := M.elder_yes d p.1 p.2 hr; omega
theorem none_all (h : d.length ≤ M.goOn d) : M.rd 0 0 d = none := by
  cases hr : M.rd 0 0 d with
  | none => rfl
  | some p => have := M.elder_yes d p.1 p.2 hr; omega
theorem getD_drop (l : List UInt8) (k j : Nat) (h : k + j < l.length) : (l[k + j]?.getD 0) = (l.drop k)[j]'(by simp; omega) := by
  rw [List.getElem?_eq_getElem h]; simp
/-- the value of the bytes from the i-th on, as uint64 reckons it -/
def back (l : List UInt8) (k j i : Nat) : Nat := M.val (((l.drop k).take (j + 1)).drop i) % 18446744073709551616
theorem back_start (l : List UInt8) (k j : Nat) : back l k j (j + 1) = 0 := by
  unfold back
  rw [List.drop_eq_nil_of_le (by simp; omega)]; rfl
theorem back_step (l : List UInt8) (k j i : Nat) (hi : i ≤ j) (h : k + j < l.length) (hx : x = (l[k + i]?.getD 0).toNat) : back l k j i = (back l k j (i + 1) * 128 % 18446744073709551616 + x % 128) % 18446744073709551616 := by
  unfold back
  have hl : i < ((l.drop k).take (j + 1)).length := by simp; omega
  have hxx : x = (((l.drop k).take (j + 1))[i]).toNat := by
    rw [hx, getD_drop l k i (by omega)]; simp
  rw [List.drop_eq_getElem_cons hl, M.val, ← hxx]
  omega
/-- what the comparison comes to -/
theorem elder_says (l : List UInt8) (k j : Nat) (hg : M.goOn (l.drop k) = j) :
    (M.uv (back l k j 0) = (l.drop k).take (j + 1) ∧ M.rd 0 0 (l.drop k) = some (back l k j 0, j + 1)) ∨ (M.uv (back l k j 0) ≠ (l.drop k).take (j + 1) ∧ M.rd 0 0 (l.drop k) = none) := by
  cases hr : M.rd 0 0 (l.drop k) with
  | none =>
    right
    refine ⟨?_, rfl⟩
    have := M.elder_no _ hr (back l k j 0) (Nat.mod_lt _ (by omega))
    rwa [hg] at this
  | some p =>
    left
    obtain ⟨x, n⟩ := p
    obtain ⟨h1, h2, h3, h4, h5, h6⟩ := M.elder_yes _ x n hr
    rw [hg] at h1 h4 h5
    have hb : back l k j 0 = x := by
      unfold back
      rw [List.drop_zero, h4]; omega
    rw [hb]
    exact ⟨h5, by rw [h1]⟩
end

set_option maxRecDepth 100000 in
set_option maxHeartbeats 1000000 in
theorem ref_readUvarint_any (A : Option Addr) (n c B : Nat) (l : List UInt8) (at_ : Int) (w : World) (h : Rd w B A n c l) (hB : B ≤ w.heap.size) (h1 : -9223372036854775808 ≤ at_) (h2 : at_ ≤ 9223372036854775807) :
    Calls Tryd.prog 42 #[.slice A n c, .int .i64 at_] w (TellsB (M.rdAt l at_) w) := by
  have hn := h.len
  have hc := h.cap
  have hm := h.max
  by_cases hneg : at_ < 0
  · have HR := Lib.hid (rdAt_arg (l := l) (.inl hneg))
    have HN := Lib.hid hn
    clear hn
    go_enter Tryd.func42, Tryd.ntmps42
    go_wp2
    go_ret3
    exact ⟨by rw [HR.out]; rfl, Below.refl _ _⟩
  · by_cases hbig : (n : Int) < at_
    · have HR := Lib.hid (rdAt_arg (l := l) (at_ := at_) (.inr (by omega)))
      have HN := Lib.hid hn
      clear hn
      have hd : decide (at_ < 0) = false := by simpa using hneg
      go_enter Tryd.func42, Tryd.ntmps42
      go_wp2
      go_ret3
      exact ⟨by rw [HR.out]; rfl, Below.refl _ _⟩
    · obtain ⟨k, rfl⟩ := Int.eq_ofNat_of_zero_le (show 0 ≤ at_ by omega)
      have HR := Lib.hid (rdAt_in (l := l) (k := k) (by omega))
      have HN := Lib.hid hn
      clear hn
      by_cases hkn : k < n
      · obtain ⟨b, off, rfl, hb, hcells⟩ := h.2.2.2 (by omega)
        have hck : ¬ c = k := by omega
        have HL := Lib.hid (show (l.drop k).length = n - k by simp; have := HN.out; omega)
        have HC := Lib.hid hcells
        clear hcells
        go_enter Tryd.func42, Tryd.ntmps42
        go_wp2
        go_loop [7] (fun v => ∃ j : Nat, v = .int .i64 j ∧ j ≤ 10 ∧ j ≤ n - k ∧ j ≤ M.goOn (l.drop k)) (fun v => 10 - (intOf v).toNat)
        case atStart => exact ⟨0, rfl, by omega, by omega, by omega⟩
        case round =>
          obtain ⟨j, rfl, hj10, hjn, hg⟩ := hrel
          by_cases c10 : j < 10
          · by_cases hlt : j < n - k
            · have hcell := HC.out (k + j) (by omega)
              obtain ⟨x, hx⟩ : ∃ x, x = (l[k + j]?.getD 0).toNat := ⟨_, rfl⟩
              have hx256 : x < 256 := by rw [hx]; exact UInt8.toNat_lt _
              rw [← hx] at hcell
              have HX := Lib.hid hx
              clear hx
              have HK := Lib.hid (show k + j < l.length by have := HN.out; omega)
              have hd1 : decide (j < 10) = true := by simpa using c10
              have hi1 : (j : Int) < (n : Int) - (k : Int) := by omega
              by_cases hx128 : 128 ≤ x
              · have HG := Lib.hid (goOn_more (l.drop k) j hg (by rw [HL.out]; omega) (by rw [← getD_drop l k j HK.out, ← HX.out]; exact hx128))
                go_wp2
                go_round
                case rel => exact ⟨j + 1, by go_num, by omega, by omega, HG.out⟩
                case measure => simp [intOf]; omega
              · have HG := Lib.hid (goOn_stop (l.drop k) j hg (by rw [HL.out]; omega) (by rw [← getD_drop l k j HK.out, ← HX.out]; omega))
                clear hg hj10
                go_wp2
                go_loop [8, 9] (fun v p => ∃ i : Nat, i ≤ j + 1 ∧ p = .int .i64 ((i : Int) - 1) ∧ v = .int .u64 (back l k j i : Nat)) (fun _ p => (intOf p + 1).toNat)
                case atStart => exact ⟨j + 1, Nat.le_refl _, by go_num, by rw [back_start]; rfl⟩
                case round =>
                  obtain ⟨i, hi, rfl, rfl⟩ := hrel
                  cases i with
                  | zero =>
                    obtain ⟨V, hV⟩ : ∃ V, V = back l k j 0 := ⟨_, rfl⟩
                    have hVlt : V < 18446744073709551616 := by rw [hV]; exact Nat.mod_lt _ (by omega)
                    have HE := Lib.hid (elder_says l k j HG.out)
                    rw [← hV] at HE ⊢
                    clear hV
                    go_wp2_with fail
                    refine (ref_uvarint_any V _ hVlt).mono ?_
                    rintro e w1 ⟨v, rfl, hown, hbel⟩
                    obtain ⟨A1, c1, rfl, hrd⟩ := hown.open_
                    have hs1 := fun nq => run_str (P := Tryd.prog) (w1.drewN nq) _ 24 9 5 Tryd.underlying24 Tryd.underlying5 Tryd.underlying9 A1 _ c1 _ (hrd.drewN nq)
                    go_wp2
                    have hjc : k + j + 1 ≤ c := by omega
                    have hw1 : IntKind.i64.wrap ((k : Int) + (j : Int)) = (k : Int) + (j : Int) := IntWalk.i64_in _ (by omega)
                    have hw2 : IntKind.i64.wrap ((k : Int) + (j : Int) + 1) = (k : Int) + (j : Int) + 1 := IntWalk.i64_in _ (by omega)
                    have hw3 : (0 : Int) ≤ (k : Int) + (j : Int) + 1 := by omega
                    have hw4 : ((k : Int) + (j : Int) + 1).toNat = k + j + 1 := by omega
                    have hrd2 : Rd w1 B (some ⟨b, off + k, none⟩) (k + j + 1 - k) (c - k) ((l.drop k).take (j + 1)) := by
                      have := (h.below (hbel.mono hB)).cut (i := k) (k := k + j + 1) (by omega) (by omega)
                      rw [if_neg hck, List.drop_take] at this
                      simpa [add_none, show k + j + 1 - k = j + 1 from by omega] using this
                    have hs2 := fun nq => run_str (P := Tryd.prog) (w1.drewN nq) _ 24 9 5 Tryd.underlying24 Tryd.underlying5 Tryd.underlying9 _ _ _ _ (hrd2.drewN nq)
                    rcases HE.out with ⟨he1, he2⟩ | ⟨he1, he2⟩
                    · have HE2 := Lib.hid he2
                      have HE1 := Lib.hid he1
                      clear he1 he2 HE
                      go_quiet (fail)
                      clear hw1 hw2 hw3 hw4
                      have HQ := Lib.hid (show (!(M.uv V == (l.drop k).take (j + 1))) = false by rw [HE1.out]; simp)
                      go_wp2
                      · exfalso
                        have hc : (!(M.uv V == (l.drop k).take (j + 1))) = true := by assumption
                        rw [HQ.out] at hc
                        cases hc
                      go_ret3
                      have hret : Ending.returned (.tuple #[.int .u64 (V : Int), .int .i64 ((k : Int) + (j : Int) + 1), .int .i64 0]) = .returned (.tuple #[.int .u64 (V : Int), .int .i64 ((k + (j + 1) : Nat) : Int), .int .i64 0]) := ret_t3 rfl (by omega) rfl
                      exact ⟨by rw [HR.out, HE2.out]; exact hret, below_drewN hbel _⟩
                    · have HE2 := Lib.hid he2
                      have HE1 := Lib.hid he1
                      clear he1 he2 HE
                      go_quiet (fail)
                      clear hw1 hw2 hw3 hw4
                      have HQ := Lib.hid (show (!(M.uv V == (l.drop k).take (j + 1))) = true by simp [HE1.out])
                      go_wp2
                      · go_ret3
                        exact ⟨by rw [HR.out, HE2.out]; rfl, below_drewN hbel _⟩
                      · exfalso
                        have hc : (!(M.uv V == (l.drop k).take (j + 1))) = false := by assumption
                        rw [HQ.out] at hc
                        cases hc
                  | succ i =>
                    rw [show (((i + 1 : Nat) : Int) - 1) = (i : Int) from by omega]
                    have hcell := HC.out (k + i) (by omega)
                    obtain ⟨y, hy⟩ : ∃ y, y = (l[k + i]?.getD 0).toNat := ⟨_, rfl⟩
                    have hy256 : y < 256 := by rw [hy]; exact UInt8.toNat_lt _
                    rw [← hy] at hcell
                    have HB := Lib.hid (back_step l k j i (by omega) HK.out hy)
                    clear hy
                    obtain ⟨V, hV⟩ : ∃ V, V = back l k j (i + 1) := ⟨_, rfl⟩
                    rw [← hV] at HB ⊢
                    have hVlt : V < 18446744073709551616 := by rw [hV]; exact Nat.mod_lt _ (by omega)
                    clear hV
                    go_wp2
                    go_round
                    case rel => exact ⟨i, by omega, by go_num, by rw [HB.out]; simp [IntKind.wrap_u64]⟩
                    case measure => simp [intOf]
            · have HD := Lib.hid (none_all (d := l.drop k) (by rw [HL.out]; omega))
              have hi1 : ¬ (j : Int) < (n : Int) - (k : Int) := by omega
              clear hg
              go_wp2
              go_ret3
              exact ⟨by rw [HR.out, HD.out]; rfl, Below.refl _ _⟩
          · have HD := Lib.hid (none_long (d := l.drop k) (by omega))
            clear hg
            go_wp2
            go_ret3
            exact ⟨by rw [HR.out, HD.out]; rfl, Below.refl _ _⟩
      · have HD := Lib.hid ((Scan.start l k).end_ (by have := HN.out; omega))
        obtain rfl : k = n := by omega
        go_enter Tryd.func42, Tryd.ntmps42
        go_wp2
        all_goals
          refine wp_loop_rounds 1 ?_
          rw [rounds_succ]
          go_wp2
          go_ret3
          exact ⟨by rw [HR.out, HD.out]; rfl, Below.refl _ _⟩
end Go.Proofs.YthhgelaifapmmaaDoor

namespace Go.Proofs.YthhgelaifapmmaaDoor
open Go.RowKit Mem

theorem ret_int {k : IntKind} {a b : Int} (h : a = b) : Ending.returned (.int k a) = .returned (.int k b) := by rw [h]
theorem xor_ones (a : Nat) (h : a < 18446744073709551616) : a ^^^ 18446744073709551615 = 18446744073709551615 - a := by
  have h1 : (BitVec.ofNat 64 a ^^^ BitVec.allOnes 64).toNat = 2 ^ 64 - 1 - a := by
    rw [BitVec.xor_allOnes, BitVec.toNat_not, BitVec.toNat_ofNat, Nat.mod_eq_of_lt h]
  rw [BitVec.toNat_xor, BitVec.toNat_ofNat, Nat.mod_eq_of_lt h, BitVec.toNat_allOnes] at h1
  simpa using h1
theorem zig_form (v : Int) (h1 : -9223372036854775808 ≤ v) (h2 : v ≤ 9223372036854775807) :
    bits .xor .u64 (IntKind.u64.wrap (IntKind.u64.wrap v * 2)) (IntKind.u64.wrap (v / 9223372036854775808)) = M.zig v := by
  simp only [IntKind.wrap_u64]
  unfold M.zig
  by_cases h : 0 ≤ v
  · have e1 : v / 9223372036854775808 % 18446744073709551616 = ((0 : Nat) : Int) := by omega
    have e2 : v % 18446744073709551616 * 2 % 18446744073709551616 = ((2 * v.toNat : Nat) : Int) := by omega
    rw [if_pos h, e1, e2, u64_xor_nat _ _ (by omega) (by omega), Nat.xor_zero]; omega
  · have e1 : v / 9223372036854775808 % 18446744073709551616 = ((18446744073709551615 : Nat) : Int) := by omega
    have e2 : v % 18446744073709551616 * 2 % 18446744073709551616 = ((2 * v + 18446744073709551616).toNat : Int) := by omega
    rw [if_neg h, e1, e2, u64_xor_nat _ _ (by omega) (by omega), xor_ones _ (by omega)]; omega
theorem zag_form (v : Int) (h1 : 0 ≤ v) (h2 : v < 18446744073709551616) :
    bits .xor .i64 (v / 2) (wrap64 (-wrap64 (bits .and .u64 v 1))) = M.zag v := by
  have e0 : bits .and .u64 v 1 = v % 2 := by
    have e : v = ((v.toNat : Nat) : Int) := by omega
    rw [e, show (1 : Int) = ((1 : Nat) : Int) from rfl, u64_and_nat _ _ (by omega) (by omega), nat_mask1]; omega
  rw [e0]
  unfold M.zag
  have hd : v / 2 = (((v / 2).toNat : Nat) : Int) := by omega
  by_cases h : v % 2 = 0
  · have e1 : wrap64 (-wrap64 (v % 2)) = ((0 : Nat) : Int) := by rw [h]; simp only [wrap64]; decide
    rw [if_pos h, e1, hd]
    show IntKind.i64.wrap ((BitVec.ofInt 64 (((v / 2).toNat : Nat) : Int) ^^^ BitVec.ofInt 64 ((0 : Nat) : Int)).toNat : Int) = _
    rw [BitVec.toNat_xor, ofInt_u64 _ (by omega), ofInt_u64 _ (by omega), Nat.xor_zero, IntKind.wrap_i64]; omega
  · have h' : v % 2 = 1 := by omega
    have e1 : wrap64 (-wrap64 (v % 2)) = -1 := by rw [h']; simp only [wrap64]; decide
    have e2 : (BitVec.ofInt 64 (-1)).toNat = 18446744073709551615 := by decide
    rw [if_neg h, e1, hd]
    show IntKind.i64.wrap ((BitVec.ofInt 64 (((v / 2).toNat : Nat) : Int) ^^^ BitVec.ofInt 64 (-1)).toNat : Int) = _
    rw [BitVec.toNat_xor, ofInt_u64 _ (by omega), e2, xor_ones _ (by omega), IntKind.wrap_i64]; omega

set_option maxRecDepth 100000 in
set_option maxHeartbeats 400000 in
theorem zig_any (v : Int) (w : World) (h1 : -9223372036854775808 ≤ v) (h2 : v ≤ 9223372036854775807) :
    Calls Tryd.prog 54 #[.int .i64 v] w fun e w' => e = .returned (.int .u64 (M.zig v)) ∧ w = w' := by
  go_enter Tryd.func54, Tryd.ntmps54
  go_wp2
  go_ret
  exact ⟨ret_int (zig_form v h1 h2), rfl⟩
set_option maxRecDepth 100000 in
set_option maxHeartbeats 400000 in
theorem zag_any (v : Int) (w : World) (h1 : 0 ≤ v) (h2 : v < 18446744073709551616) :
    Calls Tryd.prog 75 #[.int .u64 v] w fun e w' => e = .returned (.int .i64 (M.zag v)) ∧ w = w' := by
  go_enter Tryd.func75, Tryd.ntmps75
  go_wp2
  go_ret
  exact ⟨ret_int (zag_form v h1 h2), rfl⟩
set_option maxRecDepth 100000 in
set_option maxHeartbeats 400000 in
theorem ref_zig_any (v : Int) (w : World) (h1 : -9223372036854775808 ≤ v) (h2 : v ≤ 9223372036854775807) :
    Calls Tryd.prog 35 #[.int .i64 v] w fun e w' => e = .returned (.int .u64 (M.zig v)) ∧ w = w' := by
  by_cases h : 0 ≤ v
  · go_enter Tryd.func35, Tryd.ntmps35
    go_wp2
    go_ret
    exact ⟨ret_int (by unfold M.zig; rw [if_pos h]), rfl⟩
  · go_enter Tryd.func35, Tryd.ntmps35
    go_wp2
    go_ret
    exact ⟨ret_int (by unfold M.zig; rw [if_neg (by omega)]; omega), rfl⟩
set_option maxRecDepth 100000 in
set_option maxHeartbeats 400000 in
theorem ref_zag_any (v : Int) (w : World) (h1 : 0 ≤ v) (h2 : v < 18446744073709551616) :
    Calls Tryd.prog 44 #[.int .u64 v] w fun e w' => e = .returned (.int .i64 (M.zag v)) ∧ w = w' := by
  go_enter Tryd.func44, Tryd.ntmps44
  go_wp2
  · have hq : (v % 2 == 0) = true := by assumption
    go_ret
    exact ⟨ret_int (by unfold M.zag; rw [if_pos (by simpa using hq)]), rfl⟩
  · have hq : (v % 2 == 0) = false := by assumption
    go_ret
    exact ⟨ret_int (by unfold M.zag; rw [if_neg (by simpa using hq)]), rfl⟩
end Go.Proofs.YthhgelaifapmmaaDoor

namespace Go.Proofs.YthhgelaifapmmaaDoor
open Go.RowKit Mem

theorem and_ones32 (a : Nat) (h : a < 4294967296) : a &&& 4294967295 = a := by
  have := Nat.and_two_pow_sub_one_eq_mod a 32
  simp only [Nat.reducePow, Nat.add_one_sub_one] at this
  rw [this]; omega
theorem xor_ones32 (a : Nat) (h : a < 4294967296) : 4294967295 ^^^ a = 4294967295 - a := by
  have h1 : (BitVec.allOnes 32 ^^^ BitVec.ofNat 32 a).toNat = 2 ^ 32 - 1 - a := by
    rw [BitVec.allOnes_xor, BitVec.toNat_not, BitVec.toNat_ofNat, Nat.mod_eq_of_lt h]
  rw [BitVec.toNat_xor, BitVec.toNat_ofNat, Nat.mod_eq_of_lt h, BitVec.toNat_allOnes] at h1
  simpa using h1
/-- one bit, as the program has it -/
theorem crc_form (r : Nat) (h : r < 4294967296) :
    bits .xor .u32 ((r : Int) / 2) (bits .and .u32 3988292384 (-bits .and .u32 (r : Int) 1 % 4294967296)) = ((M.bit1 r : Nat) : Int) := by
  have e0 : bits .and .u32 (r : Int) 1 = ((r % 2 : Nat) : Int) := by
    rw [show (1 : Int) = ((1 : Nat) : Int) from rfl, u32_and_nat _ _ h (by omega), nat_mask1]
  have e1 : ((r : Int) / 2) = ((r / 2 : Nat) : Int) := by omega
  rw [e0, e1]
  unfold M.bit1
  by_cases hb : r % 2 = 1
  · have e2 : (-((r % 2 : Nat) : Int)) % 4294967296 = ((4294967295 : Nat) : Int) := by omega
    rw [if_pos hb, e2, show (3988292384 : Int) = ((3988292384 : Nat) : Int) from rfl, u32_and_nat _ _ (by omega) (by omega), and_ones32 _ (by omega), u32_xor_nat _ _ (by omega) (by omega)]
    rfl
  · have e2 : (-((r % 2 : Nat) : Int)) % 4294967296 = ((0 : Nat) : Int) := by omega
    rw [if_neg hb, e2, show (3988292384 : Int) = ((3988292384 : Nat) : Int) from rfl, u32_and_nat _ _ (by omega) (by omega), Nat.and_zero, u32_xor_nat _ _ (by omega) (by omega), Nat.xor_zero]
theorem not_form (s : Nat) (h : s < 4294967296) : bits .xor .u32 IntKind.u32.max (s : Int) = ((4294967295 - s : Nat) : Int) := by
  have e : IntKind.u32.max = ((4294967295 : Nat) : Int) := by decide
  rw [e, u32_xor_nat _ _ (by omega) h, xor_ones32 _ h]
theorem runs_take {l : List UInt8} {j : Nat} (h : j < l.length) (c : Nat) : M.runs c (l.take (j + 1)) = M.byte1 (M.runs c (l.take j)) (l[j]?.getD 0).toNat := by
  rw [List.take_succ_eq_append_getElem h, M.runs_snoc, List.getElem?_eq_getElem h]; rfl

theorem low_form (r x k : Nat) (hr : r < 4294967296) (hx : x < 256) :
    bits BinOp.xor IntKind.u32 (bits BinOp.and IntKind.u32 (r : Int) 1) (bits BinOp.and IntKind.u32 ((x : Int) / 2 ^ k % 4294967296) 1) = (((r % 2) ^^^ (x / 2 ^ k % 2) : Nat) : Int) := by
  have hle : x / 2 ^ k ≤ x := Nat.div_le_self _ _
  have e : ((x : Int) / 2 ^ k % 4294967296) = ((x / 2 ^ k : Nat) : Int) := by
    rw [show ((x : Int) / 2 ^ k) = ((x / 2 ^ k : Nat) : Int) from by push_cast; rfl]
    generalize x / 2 ^ k = y at *; omega
  rw [e, show (1 : Int) = ((1 : Nat) : Int) from rfl, u32_and_nat _ _ hr (by omega), u32_and_nat _ _ (by omega) (by omega), nat_mask1, nat_mask1, u32_xor_nat _ _ (by omega) (by omega)]
/-- the document's state behind k bits of the byte x, held against the program's -/
def Along (s x k r : Nat) : Prop := r ^^^ (x / 2 ^ k) = M.bitN k (s ^^^ x)
theorem Along.start (s x : Nat) : Along s x 0 s := by unfold Along; simp [M.bitN]
theorem Along.done {s x r : Nat} (h : Along s x 8 r) (hx : x < 256) : r = M.byte1 s x := by
  unfold Along at h
  rw [Nat.div_eq_of_lt (by omega), Nat.xor_zero] at h
  exact h
theorem xor_half (a b : Nat) : (a ^^^ b) / 2 = a / 2 ^^^ b / 2 := by
  have := Nat.shiftRight_xor_distrib (a := a) (b := b) (i := 1)
  simpa [Nat.shiftRight_succ] using this
theorem xor_par (a b : Nat) : (a ^^^ b) % 2 = (a % 2) ^^^ (b % 2) := by
  have := Nat.xor_mod_two_pow (a := a) (b := b) (n := 1)
  simpa using this
theorem Along.step {s x k r : Nat} (h : Along s x k r) : Along s x (k + 1) (if (r % 2) ^^^ (x / 2 ^ k % 2) = 1 then (r / 2) ^^^ M.poly else r / 2) := by
  unfold Along at h ⊢
  rw [M.bitN, ← h]
  unfold M.bit1
  have e : x / 2 ^ (k + 1) = x / 2 ^ k / 2 := by rw [Nat.pow_succ, Nat.div_div_eq_div_mul]
  rw [xor_par, xor_half, e]
  split
  · rw [Nat.xor_assoc, Nat.xor_comm M.poly, ← Nat.xor_assoc]
  · rfl

set_option maxRecDepth 100000 in
set_option maxHeartbeats 1000000 in
theorem sum_any (A : Option Addr) (n c B : Nat) (l : List UInt8) (w : World) (h : Rd w B A n c l) :
    Calls Tryd.prog 57 #[.slice A n c] w fun e w' => e = .returned (.int .u32 (M.sum l : Nat)) ∧ w = w' := by
  have hc := h.cap
  have hm := h.max
  have HN := Lib.hid h.len
  by_cases hn0 : 0 < n
  · obtain ⟨b, off, rfl, hb, hcells⟩ := h.2.2.2 hn0
    have HC := Lib.hid hcells
    clear hcells
    go_enter Tryd.func57, Tryd.ntmps57
    go_wp2
    go_loop [3, 8] (fun s i => ∃ j : Nat, j ≤ n ∧ i = .int .i64 j ∧ s = .int .u32 (M.runs 4294967295 (l.take j) : Nat)) (fun _ i => n - (intOf i).toNat)
    case atStart => exact ⟨0, Nat.zero_le _, rfl, rfl⟩
    case round =>
      obtain ⟨j, hj, rfl, rfl⟩ := hrel
      obtain ⟨s, hs⟩ : ∃ s, s = M.runs 4294967295 (l.take j) := ⟨_, rfl⟩
      have hs32 : s < 4294967296 := by rw [hs]; exact M.runs_lt _ (by omega)
      rw [← hs]
      have HS := Lib.hid hs
      clear hs
      by_cases hlt : j < n
      · have hcell := HC.out j hlt
        obtain ⟨x, hx⟩ : ∃ x, x = (l[j]?.getD 0).toNat := ⟨_, rfl⟩
        have hx256 : x < 256 := by rw [hx]; exact UInt8.toNat_lt _
        rw [← hx] at hcell
        have HX := Lib.hid hx
        clear hx
        go_wp2
        go_loop [3, 16] (fun s' t => ∃ k : Nat, k ≤ 8 ∧ t = .int .i64 k ∧ s' = .int .u32 (M.bitN k (s ^^^ x) : Nat)) (fun _ t => 8 - (intOf t).toNat)
        case atStart => exact ⟨0, Nat.zero_le _, rfl, by rw [u32_xor_nat _ _ hs32 (by omega)]; rfl⟩
        case round =>
          obtain ⟨k, hk, rfl, rfl⟩ := hrel
          obtain ⟨r, hr⟩ : ∃ r, r = M.bitN k (s ^^^ x) := ⟨_, rfl⟩
          have hr32 : r < 4294967296 := by rw [hr]; exact M.bitN_lt (Nat.xor_lt_two_pow (n := 32) (by omega) (by omega)) k
          rw [← hr]
          have HRR := Lib.hid hr
          clear hr
          by_cases hk8 : k < 8
          · go_wp2
            go_round
            case rel => exact ⟨k + 1, by omega, by go_num, by rw [crc_form r hr32, HRR.out]; rfl⟩
            case measure => simp [intOf]; omega
          · obtain rfl : k = 8 := by omega
            have HB : Hid (r = M.runs 4294967295 (l.take (j + 1))) := by
              show r = _
              rw [runs_take (by have := HN.out; omega), ← HS.out, ← HX.out, HRR.out]; rfl
            go_wp2
            go_round
            case rel => exact ⟨j + 1, by omega, by go_num, by rw [HB.out]⟩
            case measure => simp [intOf]; omega
      · have HE : Hid (M.sum l = 4294967295 - s) := by
          show _ = _
          rw [HS.out, List.take_of_length_le (by have := HN.out; omega)]; rfl
        go_wp2
        all_goals first | (exfalso; rename_i hsg; revert hsg; decide) | skip
        go_ret
        exact ⟨ret_int (by rw [HE.out, not_form s hs32]), rfl⟩
  · obtain rfl : n = 0 := by omega
    have hl : l = [] := List.eq_nil_of_length_eq_zero HN.out.symm
    subst hl
    have HE : Hid (M.sum [] = 0) := by show _ = _; rfl
    go_enter Tryd.func57, Tryd.ntmps57
    go_wp2
    refine wp_loop_rounds 1 ?_
    rw [rounds_succ]
    go_wp2
    go_ret
    exact ⟨ret_int (by rw [HE.out]; decide), rfl⟩

set_option maxRecDepth 100000 in
set_option maxHeartbeats 1000000 in
theorem ref_sum_any (A : Option Addr) (n c B : Nat) (l : List UInt8) (w : World) (h : Rd w B A n c l) :
    Calls Tryd.prog 39 #[.slice A n c] w fun e w' => e = .returned (.int .u32 (M.sum l : Nat)) ∧ w = w' := by
  have hc := h.cap
  have hm := h.max
  have HN := Lib.hid h.len
  by_cases hn0 : 0 < n
  · obtain ⟨b, off, rfl, hb, hcells⟩ := h.2.2.2 hn0
    have HC := Lib.hid hcells
    clear hcells
    go_enter Tryd.func39, Tryd.ntmps39
    go_wp2
    go_loop [3, 4] (fun s i => ∃ j : Nat, j ≤ n ∧ i = .int .i64 j ∧ s = .int .u32 (M.runs 4294967295 (l.take j) : Nat)) (fun _ i => n - (intOf i).toNat)
    case atStart => exact ⟨0, Nat.zero_le _, rfl, rfl⟩
    case round =>
      obtain ⟨j, hj, rfl, rfl⟩ := hrel
      obtain ⟨s, hs⟩ : ∃ s, s = M.runs 4294967295 (l.take j) := ⟨_, rfl⟩
      have hs32 : s < 4294967296 := by rw [hs]; exact M.runs_lt _ (by omega)
      rw [← hs]
      have HS := Lib.hid hs
      clear hs
      by_cases hlt : j < n
      · have hcell := HC.out j hlt
        obtain ⟨x, hx⟩ : ∃ x, x = (l[j]?.getD 0).toNat := ⟨_, rfl⟩
        have hx256 : x < 256 := by rw [hx]; exact UInt8.toNat_lt _
        rw [← hx] at hcell
        have HX := Lib.hid hx
        clear hx
        go_wp2
        go_loop [3, 5] (fun s' t => ∃ k r : Nat, k ≤ 8 ∧ t = .int .i64 k ∧ s' = .int .u32 r ∧ r < 4294967296 ∧ Along s x k r) (fun _ t => 8 - (intOf t).toNat)
        case atStart => exact ⟨0, s, Nat.zero_le _, rfl, rfl, hs32, Along.start s x⟩
        case round =>
          obtain ⟨k, r, hk, rfl, rfl, hr32, hal⟩ := hrel
          by_cases hk8 : k < 8
          · have HST := Lib.hid hal.step
            have HLO := Lib.hid (low_form r x k hr32 hx256)
            go_wp2
            · have ht : (bits BinOp.xor IntKind.u32 (bits BinOp.and IntKind.u32 (r : Int) 1) (bits BinOp.and IntKind.u32 ((x : Int) / 2 ^ k % 4294967296) 1) == 1) = true := by assumption
              have hlow : (r % 2) ^^^ (x / 2 ^ k % 2) = 1 := by rw [HLO.out] at ht; have := WalkArith.int_eq ht; omega
              have hst := HST.out
              rw [if_pos hlow] at hst
              go_round
              case rel => exact ⟨k + 1, _, by omega, by go_num, by rw [show ((r : Int) / 2) = ((r / 2 : Nat) : Int) from by omega, show (3988292384 : Int) = ((3988292384 : Nat) : Int) from rfl, u32_xor_nat _ _ (by omega) (by omega)]; rfl, Nat.xor_lt_two_pow (n := 32) (by omega) (by decide), hst⟩
              case measure => simp [intOf]; omega
            · have ht : (bits BinOp.xor IntKind.u32 (bits BinOp.and IntKind.u32 (r : Int) 1) (bits BinOp.and IntKind.u32 ((x : Int) / 2 ^ k % 4294967296) 1) == 1) = false := by assumption
              have hlow : ¬ (r % 2) ^^^ (x / 2 ^ k % 2) = 1 := by rw [HLO.out] at ht; have := WalkArith.int_ne ht; omega
              have hst := HST.out
              rw [if_neg hlow] at hst
              go_round
              case rel => exact ⟨k + 1, r / 2, by omega, by go_num, by go_num, by omega, hst⟩
              case measure => simp [intOf]; omega
          · obtain rfl : k = 8 := by omega
            have HB : Hid (r = M.runs 4294967295 (l.take (j + 1))) := by
              show r = _
              rw [runs_take (by have := HN.out; omega), ← HS.out, ← HX.out, hal.done hx256]
            go_wp2
            go_round
            case rel => exact ⟨j + 1, by omega, by go_num, by rw [HB.out]⟩
            case measure => simp [intOf]; omega
      · have HE : Hid (M.sum l = 4294967295 - s) := by
          show _ = _
          rw [HS.out, List.take_of_length_le (by have := HN.out; omega)]; rfl
        go_wp2
        go_ret
        exact ⟨ret_int (by rw [HE.out]; omega), rfl⟩
  · obtain rfl : n = 0 := by omega
    have hl : l = [] := List.eq_nil_of_length_eq_zero HN.out.symm
    subst hl
    have HE : Hid (M.sum [] = 0) := by show _ = _; rfl
    go_enter Tryd.func39, Tryd.ntmps39
    go_wp2
    refine wp_loop_rounds 1 ?_
    rw [rounds_succ]
    go_wp2
    go_ret
    exact ⟨ret_int (by rw [HE.out]; rfl), rfl⟩
end Go.Proofs.YthhgelaifapmmaaDoor

namespace Go.Proofs.YthhgelaifapmmaaDoor
open Go.RowKit Mem

def Yes (w : World) (e : Ending) (w' : World) : Prop := e = .returned (.bool true) ∧ Below w.heap.size w w'

end Go.Proofs.YthhgelaifapmmaaDoor

namespace Go.Proofs.YthhgelaifapmmaaDoor
open Go.RowKit Mem

def TellsT (r : List UInt8 × Nat × Nat) (w : World) (e : Ending) (w' : World) : Prop := e = .returned (.tuple #[.string ⟨r.1.toArray⟩, .int .i64 (r.2.1 : Int), .int .i64 (r.2.2 : Int)]) ∧ Below w.heap.size w w'

theorem rdText_err {l : List UInt8} {at_ most : Int} (h : (M.rdAt l at_).2.2 ≠ 0) : M.rdText l at_ most = ([], 0, (M.rdAt l at_).2.2) := by unfold M.rdText; rw [if_pos h]
theorem rdText_form {l : List UInt8} {at_ most : Int} (h : (M.rdAt l at_).2.2 = 0) (h2 : l.length - (M.rdAt l at_).2.1 < (M.rdAt l at_).1) : M.rdText l at_ most = ([], 0, 3) := by
  unfold M.rdText; rw [if_neg (by simpa using h), if_pos h2]
theorem rdText_long {l : List UInt8} {at_ most : Int} (h : (M.rdAt l at_).2.2 = 0) (h2 : ¬ l.length - (M.rdAt l at_).2.1 < (M.rdAt l at_).1) (h3 : most < ((M.rdAt l at_).1 : Int)) : M.rdText l at_ most = ([], 0, 2) := by
  unfold M.rdText; rw [if_neg (by simpa using h), if_neg h2, if_pos h3]
theorem rdText_ok {l : List UInt8} {at_ most : Int} (h : (M.rdAt l at_).2.2 = 0) (h2 : ¬ l.length - (M.rdAt l at_).2.1 < (M.rdAt l at_).1) (h3 : ¬ most < ((M.rdAt l at_).1 : Int)) :
    M.rdText l at_ most = ((l.drop (M.rdAt l at_).2.1).take (M.rdAt l at_).1, (M.rdAt l at_).2.1 + (M.rdAt l at_).1, 0) := by
  unfold M.rdText; rw [if_neg (by simpa using h), if_neg h2, if_neg h3]

set_option maxRecDepth 100000 in
set_option maxHeartbeats 1000000 in
theorem readText_any (A : Option Addr) (n c B : Nat) (l : List UInt8) (at_ most : Int) (w : World) (h : Rd w B A n c l) (h1 : -9223372036854775808 ≤ at_) (h2 : at_ ≤ 9223372036854775807) (h3 : -9223372036854775808 ≤ most) (h4 : most ≤ 9223372036854775807) :
    Calls Tryd.prog 74 #[.slice A n c, .int .i64 at_, .int .i64 most] w (TellsT (M.rdText l at_ most) w) := by
  have hc := h.cap
  have hm := h.max
  have HN := Lib.hid h.len
  have HC := Lib.hid (readUvarint_any A n c B l at_ w h h1 h2)
  have HE := Lib.hid (M.rdAt_err l at_)
  have HO := Lib.hid (@M.rdAt_le l at_)
  have HK := Lib.hid (@M.rdAt_ok l at_)
  have HT1 := Lib.hid (@rdText_err l at_ most)
  have HT2 := Lib.hid (@rdText_form l at_ most)
  have HT3 := Lib.hid (@rdText_long l at_ most)
  have HT4 := Lib.hid (@rdText_ok l at_ most)
  generalize M.rdAt l at_ = r at *
  obtain ⟨v, f, x⟩ := r
  simp only at HE HO HK HT1 HT2 HT3 HT4
  by_cases hx : x = 0
  · subst hx
    have hf := HO.out rfl
    have hv : v < 18446744073709551616 := by
      obtain ⟨_, _, _, _, hv, _⟩ := HK.out rfl
      simpa using hv
    have hn := HN.out
    have hfn : f ≤ n := by omega
    have hkf := hf.1
    have hat := hf.2.2.2
    have hn0 : 0 < n := by omega
    obtain ⟨b, off, rfl, hb, _⟩ := h.2.2.2 hn0
    clear hn hf
    by_cases hl : n - f < v
    · have HT := Lib.hid (HT2.out rfl (by rw [← HN.out]; exact hl))
      go_enter Tryd.func74, Tryd.ntmps74
      go_wp2_with fail
      refine HC.out.mono ?_
      rintro e w1 ⟨rfl, rfl⟩
      go_wp2
      go_ret3
      exact ⟨by rw [HT.out]; rfl, Below.refl _ _⟩
    · by_cases hmo : most < (v : Int)
      · have HT := Lib.hid (HT3.out rfl (by rw [← HN.out]; exact hl) hmo)
        go_enter Tryd.func74, Tryd.ntmps74
        go_wp2_with fail
        refine HC.out.mono ?_
        rintro e w1 ⟨rfl, rfl⟩
        go_wp2
        go_ret3
        exact ⟨by rw [HT.out]; rfl, Below.refl _ _⟩
      · have HT := Lib.hid (HT4.out rfl (by rw [← HN.out]; exact hl) hmo)
        have hrd2 := h.cut (i := f) (k := f + v) (by omega) (by omega)
        by_cases hcf : c = f
        · obtain rfl : v = 0 := by omega
          rw [if_pos hcf, List.drop_take, Nat.add_sub_cancel_left, show c - f = 0 from by omega] at hrd2
          have hs := run_str (P := Tryd.prog) w _ 24 9 5 Tryd.underlying24 Tryd.underlying5 Tryd.underlying9 _ _ _ _ hrd2
          subst hcf
          go_enter Tryd.func74, Tryd.ntmps74
          go_wp2_with fail
          refine HC.out.mono ?_
          rintro e w1 ⟨rfl, rfl⟩
          go_wp2
          go_ret3
          exact ⟨by rw [HT.out]; rfl, Below.refl _ _⟩
        · rw [if_neg hcf, List.drop_take, Nat.add_sub_cancel_left] at hrd2
          simp only [Option.map_some, add_none] at hrd2
          have hs := run_str (P := Tryd.prog) w _ 24 9 5 Tryd.underlying24 Tryd.underlying5 Tryd.underlying9 _ _ _ _ hrd2
          go_enter Tryd.func74, Tryd.ntmps74
          go_wp2_with fail
          refine HC.out.mono ?_
          rintro e w1 ⟨rfl, rfl⟩
          go_wp2
          go_ret3
          exact ⟨by rw [HT.out]; simp only [Int.natCast_add]; rfl, Below.refl _ _⟩
  · have HT := Lib.hid (HT1.out hx)
    have hbx : ((x : Int) != 0) = true := by rw [bne_iff_ne]; omega
    go_enter Tryd.func74, Tryd.ntmps74
    go_wp2_with fail
    refine HC.out.mono ?_
    rintro e w1 ⟨rfl, rfl⟩
    go_wp2
    go_ret3
    exact ⟨by rw [HT.out]; rfl, Below.refl _ _⟩
set_option maxRecDepth 100000 in
set_option maxHeartbeats 1000000 in
theorem ref_readText_any (A : Option Addr) (n c B : Nat) (l : List UInt8) (at_ most : Int) (w : World) (h : Rd w B A n c l) (hB : B ≤ w.heap.size) (h1 : -9223372036854775808 ≤ at_) (h2 : at_ ≤ 9223372036854775807) (h3 : -9223372036854775808 ≤ most) (h4 : most ≤ 9223372036854775807) :
    Calls Tryd.prog 43 #[.slice A n c, .int .i64 at_, .int .i64 most] w (TellsT (M.rdText l at_ most) w) := by
  have hc := h.cap
  have hm := h.max
  have HN := Lib.hid h.len
  have HC := Lib.hid (ref_readUvarint_any A n c B l at_ w h hB h1 h2)
  have HE := Lib.hid (M.rdAt_err l at_)
  have HO := Lib.hid (@M.rdAt_le l at_)
  have HK := Lib.hid (@M.rdAt_ok l at_)
  have HT1 := Lib.hid (@rdText_err l at_ most)
  have HT2 := Lib.hid (@rdText_form l at_ most)
  have HT3 := Lib.hid (@rdText_long l at_ most)
  have HT4 := Lib.hid (@rdText_ok l at_ most)
  generalize M.rdAt l at_ = r at *
  obtain ⟨v, f, x⟩ := r
  simp only at HE HO HK HT1 HT2 HT3 HT4
  by_cases hx : x = 0
  · subst hx
    have hf := HO.out rfl
    have hv : v < 18446744073709551616 := by
      obtain ⟨_, _, _, _, hv, _⟩ := HK.out rfl
      simpa using hv
    have hn := HN.out
    have hfn : f ≤ n := by omega
    have hkf := hf.1
    have hat := hf.2.2.2
    have hn0 : 0 < n := by omega
    obtain ⟨b, off, rfl, hb, _⟩ := h.2.2.2 hn0
    clear hn hf
    by_cases hl : n - f < v
    · have HT := Lib.hid (HT2.out rfl (by rw [← HN.out]; exact hl))
      go_enter Tryd.func43, Tryd.ntmps43
      go_wp2_with fail
      refine HC.out.mono ?_
      rintro e w1 ⟨rfl, hb1⟩
      go_wp2
      go_ret3
      exact ⟨by rw [HT.out]; rfl, hb1⟩
    · by_cases hmo : most < (v : Int)
      · have HT := Lib.hid (HT3.out rfl (by rw [← HN.out]; exact hl) hmo)
        go_enter Tryd.func43, Tryd.ntmps43
        go_wp2_with fail
        refine HC.out.mono ?_
        rintro e w1 ⟨rfl, hb1⟩
        go_wp2
        all_goals
          go_ret3
          exact ⟨by rw [HT.out]; rfl, hb1⟩
      · have HT := Lib.hid (HT4.out rfl (by rw [← HN.out]; exact hl) hmo)
        have hrd2 := h.cut (i := f) (k := f + v) (by omega) (by omega)
        by_cases hcf : c = f
        · obtain rfl : v = 0 := by omega
          rw [if_pos hcf, List.drop_take, Nat.add_sub_cancel_left, show c - f = 0 from by omega] at hrd2
          have hs := fun w1 hb1 => run_str (P := Tryd.prog) w1 _ 24 9 5 Tryd.underlying24 Tryd.underlying5 Tryd.underlying9 _ _ _ _ (hrd2.below (Below.mono hb1 hB))
          subst hcf
          go_enter Tryd.func43, Tryd.ntmps43
          go_wp2_with fail
          refine HC.out.mono ?_
          rintro e w1 ⟨rfl, hb1⟩
          go_wp2
          go_ret3
          exact ⟨by rw [HT.out]; rfl, hb1⟩
        · rw [if_neg hcf, List.drop_take, Nat.add_sub_cancel_left] at hrd2
          simp only [Option.map_some, add_none] at hrd2
          have hs := fun w1 hb1 => run_str (P := Tryd.prog) w1 _ 24 9 5 Tryd.underlying24 Tryd.underlying5 Tryd.underlying9 _ _ _ _ (hrd2.below (Below.mono hb1 hB))
          go_enter Tryd.func43, Tryd.ntmps43
          go_wp2_with fail
          refine HC.out.mono ?_
          rintro e w1 ⟨rfl, hb1⟩
          go_wp2
          go_ret3
          exact ⟨by rw [HT.out]; simp only [Int.natCast_add]; rfl, hb1⟩
  · have HT := Lib.hid (HT1.out hx)
    have hbx : ((x : Int) != 0) = true := by rw [bne_iff_ne]; omega
    go_enter Tryd.func43, Tryd.ntmps43
    go_wp2_with fail
    refine HC.out.mono ?_
    rintro e w1 ⟨rfl, hb1⟩
    go_wp2
    go_ret3
    exact ⟨by rw [HT.out]; rfl, hb1⟩
end Go.Proofs.YthhgelaifapmmaaDoor

namespace Go.Proofs.YthhgelaifapmmaaDoor
open Go.RowKit Mem

theorem Own.fresh (w : World) (base : Nat) (e : TypeId) (cs : Array Value) (l : List UInt8) (hl : cs.toList = bcells l) (hb : base ≤ w.heap.size) (hn : l.length ≤ 9223372036854775807) :
    Own (w.alloc (.cells cs e)) base e (.slice (some ⟨w.heap.size, 0, none⟩) l.length l.length) l := by
  refine ⟨by rw [bcells_len]; omega, .inr ⟨w.heap.size, l.length, cs, rfl, hb, heap_alloc_new w _, Nat.le_refl _, by simpa only [maxLen] using hn, ?_, ?_⟩⟩
  · have := congrArg List.length hl
    rw [bcells_len] at this
    simpa using this
  · rw [hl, Nat.mul_one, List.take_of_length_le (by rw [bcells_len]; exact Nat.le_refl _)]

theorem four_cells (s : Nat) (hs : s < 4294967296) : (#[Value.int .u8 ((s : Int) / 16777216), .int .u8 ((s : Int) / 65536 % 256), .int .u8 ((s : Int) / 256 % 256), .int .u8 ((s : Int) % 256)] : Array Value).toList = bcells (M.four s) := by
  simp only [bcells, bcell, M.four, List.map_cons, List.map_nil]
  rw [M.toNat_of (Nat.mod_lt _ (by omega)), M.toNat_of (Nat.mod_lt _ (by omega)), M.toNat_of (Nat.mod_lt _ (by omega)), M.toNat_of (Nat.mod_lt _ (by omega))]
  rw [show ((s : Int) / 16777216) = ((s / 16777216 % 256 : Nat) : Int) from by omega]
  rfl

set_option maxRecDepth 100000 in
set_option maxHeartbeats 1000000 in
theorem ref_four_any (s : Nat) (w : World) (hs : s < 4294967296) : Calls Tryd.prog 38 #[.int .u32 s] w (Gives w (M.four s)) := by
  go_enter Tryd.func38, Tryd.ntmps38
  go_wp2
  go_ret
  exact ⟨_, rfl, Own.fresh w w.heap.size _ _ (M.four s) (four_cells s hs) (Nat.le_refl _) (by rw [M.four_len]; omega), (Below.refl _ _).alloc (Nat.le_refl _) _⟩

/-- onto what the caller owns -/
def Grows (w : World) (base : Nat) (v0 : Value) (l : List UInt8) (e : Ending) (w' : World) : Prop :=
  ∃ v, e = .returned v ∧ Own w' base 5 v l ∧ w.grownBy w' v0.ownBlock

theorem or_byte (a x y : Nat) (hx : x < 256) (ha : a < 16777216) (hy : y = a * 256 + x) : bits BinOp.or IntKind.u32 ((a : Int) * 256) (x : Int) = (y : Int) := by
  rw [show ((a : Int) * 256) = ((a * 256 : Nat) : Int) from by omega, u32_or_nat _ _ (by omega) (by omega), nat_join 8 _ _ (by omega) (by omega), hy]

end Go.Proofs.YthhgelaifapmmaaDoor

namespace Go.Proofs.YthhgelaifapmmaaDoor
open Go.RowKit Mem

set_option maxRecDepth 100000 in
set_option maxHeartbeats 1000000 in
theorem text_any (s : ByteArray) (w : World) (hs : s.size ≤ 140737488355000) : Calls Tryd.prog 53 #[.string s] w (Gives w (M.text s.data.toList)) := by
  obtain ⟨i0, hi, hz0, hz1, hz2⟩ := info_parts Tryd.info_byte
  have HI := Lib.hid hi; have HZ0 := Lib.hid hz0; have HZ1 := Lib.hid hz1; have HZ2 := Lib.hid hz2
  clear hi hz0 hz1 hz2
  have hul := M.uv_len s.size
  go_enter Tryd.func53, Tryd.ntmps53
  go_wp2_with fail
  refine (uvarint_any s.size _ (by omega)).mono ?_
  rintro e w1 ⟨q, rfl, hq, hb1⟩
  go_wp2_with (at_builtin; go_must (refine wpList_appS w1 rfl (.tmp 6) (.tmp 7) _ _ rfl w.heap.size _ i0 Tryd.underlying24 Tryd.underlying9 HI.out HZ0.out HZ1.out HZ2.out _ _ hq rfl s rfl ?_ hb1.size ?_))
  · omega
  intro v2 w2 hv2 hg2
  go_wp2
  go_ret
  refine ⟨_, rfl, ?_, hb1.trans (below_own hq hb1.size hg2)⟩
  have e : M.text s.data.toList = M.uv s.size ++ s.data.toList := by simp [M.text]
  rw [e]
  exact hv2

set_option maxRecDepth 100000 in
set_option maxHeartbeats 1000000 in
theorem ref_text_any (s : ByteArray) (w : World) (hs : s.size ≤ 140737488355000) : Calls Tryd.prog 34 #[.string s] w (Gives w (M.text s.data.toList)) := by
  obtain ⟨i0, hi, hz0, hz1, hz2⟩ := info_parts Tryd.info_byte
  have HI := Lib.hid hi; have HZ0 := Lib.hid hz0; have HZ1 := Lib.hid hz1; have HZ2 := Lib.hid hz2
  clear hi hz0 hz1 hz2
  have hul := M.uv_len s.size
  go_enter Tryd.func34, Tryd.ntmps34
  go_wp2_with fail
  refine (ref_uvarint_any s.size _ (by omega)).mono ?_
  rintro e w1 ⟨q, rfl, hq, hb1⟩
  go_wp2_with (at_builtin; go_must (refine wpList_appS w1 rfl (.tmp 8) (.tmp 9) _ _ rfl w.heap.size _ i0 Tryd.underlying24 Tryd.underlying9 HI.out HZ0.out HZ1.out HZ2.out _ _ hq rfl s rfl ?_ hb1.size ?_))
  · omega
  intro v2 w2 hv2 hg2
  go_wp2
  go_ret
  refine ⟨_, rfl, ?_, hb1.trans (below_own hq hb1.size hg2)⟩
  have e : M.text s.data.toList = M.uv s.size ++ s.data.toList := by simp [M.text]
  rw [e]
  exact hv2

end Go.Proofs.YthhgelaifapmmaaDoor
