/-
  HttpWrites, by contracts.
-/
import Derived.Test.YtdbinhbmhkbfeaaGreatDoorHttpAp
import Derived.Test.YtdbinhbmhkbfeaaGreatDoorHttpWs
import Derived.Test.YtdbinhbmhkbfeaaGreatDoorHttpN
namespace Go.Proofs.YtdbinhbmhkbfeaaGreatDoor
open Go.RowKit Mem Go.Sort
set_option linter.unusedVariables false
set_option maxRecDepth 100000

open M in
theorem M.ansP_big {n : Nat} {last : Bool} {b : List UInt8} (hn : n < 1000000000000000000) (hb : n ≤ b.length) : ansP (Lib.decDigits n ++ (tailB last ++ b)) = some (n, b) := by
  have hd := dec_digs n
  have e : Lib.decDigits n ++ (tailB last ++ b) = Lib.decDigits n ++ 13 :: 10 :: (((if last then closeB else []) ++ [13, 10]) ++ b) := by simp [tailB]
  unfold ansP
  rw [e, cut_crlf _ _ (digs_no13 hd.1)]
  simp only [num_dec (show n < 1000000000000000000 by omega)]
  cases last with
  | true =>
    have h1 : closeB <+: (((if true = true then closeB else []) ++ [13, 10]) ++ b) := ⟨[13, 10] ++ b, by simp⟩
    rw [if_pos h1]
    have h2 : (((if true = true then closeB else []) ++ [13, 10]) ++ b).drop 19 = [13, 10] ++ b := by simp [closeB]
    rw [h2, if_pos ⟨⟨b, rfl⟩, hb⟩]
    rfl
  | false =>
    have h1 : ¬ closeB <+: (((if false = true then closeB else []) ++ [13, 10]) ++ b) := by
      rintro ⟨t, ht⟩
      have := congrArg List.head? ht
      simp [closeB] at this
    rw [if_neg h1]
    have h2 : (((if false = true then closeB else []) ++ [13, 10]) ++ b) = [13, 10] ++ b := by simp
    rw [h2, if_pos ⟨⟨b, rfl⟩, hb⟩]
    rfl

theorem dec_three {s : Nat} (h1 : 100 ≤ s) (h2 : s ≤ 999) : (Lib.decDigits s).length = 3 := by
  rw [Lib.decDigits_length, Lib.nDigits_big (by omega), Lib.nDigits_big (by omega), Lib.nDigits_small (by omega)]
theorem front_app (s : Nat) (t : List UInt8) : M.frontB s ++ t = M.v9 ++ (Lib.decDigits s ++ ((32 :: (M.wordsOf s ++ M.ctL)) ++ t)) := by
  unfold M.frontB; simp
theorem stateN_front {s : Nat} (h1 : 100 ≤ s) (h2 : s ≤ 999) (t : List UInt8) : stateN (M.frontB s ++ t) = s := by
  have h3 := dec_three h1 h2
  rw [front_app]
  have hd : (M.v9 ++ (Lib.decDigits s ++ ((32 :: (M.wordsOf s ++ M.ctL)) ++ t))).drop 9 = Lib.decDigits s ++ ((32 :: (M.wordsOf s ++ M.ctL)) ++ t) := List.drop_left' rfl
  unfold stateN
  rw [if_pos ((pre_iff _ _).1 ⟨_, rfl⟩), hd, if_neg (by rw [List.length_append, h3]; omega), List.take_left' h3, M.num_dec (by omega)]
theorem writeB_app (s : Nat) (b c : List UInt8) (la : Bool) : M.writeB s b la ++ c = M.frontB s ++ (Lib.decDigits b.length ++ (M.tailB la ++ (b ++ c))) := by
  unfold M.writeB; simp
theorem progAns_write {s : Nat} (h1 : 100 ≤ s) (h2 : s ≤ 999) (b c : List UInt8) (la : Bool) (hb : b.length < 1000000000000000000) : progAns (M.writeB s b la ++ c) = some (s, b, (M.writeB s b la).length) := by
  have hst : stateN (M.writeB s b la ++ c) = s := by rw [writeB_app]; exact stateN_front h1 h2 _
  unfold progAns
  rw [hst, writeB_app, if_pos ((pre_iff _ _).1 ⟨_, rfl⟩), if_pos ⟨h1, h2⟩, List.drop_left' rfl, M.ansP_big hb (by simp)]
  show some (s, (b ++ c).take b.length, _) = _
  rw [List.take_left' rfl]
  have : (M.frontB s ++ (Lib.decDigits b.length ++ (M.tailB la ++ (b ++ c)))).length - (b ++ c).length + b.length = (M.writeB s b la).length := by
    unfold M.writeB
    simp only [List.length_append]
    omega
  rw [← this]

/-- Answer at an answer that Write made, and more -/
theorem Answer_write (s : Nat) (h1 : 100 ≤ s) (h2 : s ≤ 999) (b c : List UInt8) (la : Bool) (p : ByteArray) (hp : bl p = M.writeB s b la ++ c) (hb : b.length ≤ 140737488351232) (hs : p.size ≤ 281474976710656) (w : World) (hV : Vars w) : Calls Tryz.prog 8 #[.string p] w fun e w' => e = .returned (.tuple #[.int .i64 (s : Int), .string ⟨b.toArray⟩, .int .i64 ((M.writeB s b la).length : Int)]) ∧ Below w.heap.size w w' := by
  have hst : stateN (bl p) = s := by rw [hp, writeB_app]; exact stateN_front h1 h2 _
  have hdr : (bl p).drop (M.frontB (stateN (bl p))).length = Lib.decDigits b.length ++ 13 :: 10 :: (((if la then M.closeB else []) ++ [13, 10]) ++ (b ++ c)) := by
    rw [hst, hp, writeB_app, List.drop_left' rfl]
    simp [M.tailB]
  have hdg := M.dec_digs b.length
  have hlen := M.dec_len (n := b.length) (k := 15) (by omega) (by omega)
  have hn13 := M.digs_no13 hdg.1
  have hne : Lib.decDigits b.length ≠ [] := by
    intro e
    have := congrArg List.length e
    rw [Lib.decDigits_length] at this
    by_cases hm : b.length < 10
    · rw [Lib.nDigits_small hm] at this; simp at this
    · rw [Lib.nDigits_big hm] at this; simp at this
  obtain ⟨x, L, hxL⟩ := List.exists_cons_of_ne_nil hne
  rw [hxL] at hdr hn13 hlen
  have hA := Answer_big p w hs hV (fun B hB W hbw => by
    rw [hdr] at hB
    have hBs : B.size ≤ p.size := by
      have e1 : B.size = ((x :: L) ++ 13 :: 10 :: (((if la then M.closeB else []) ++ [13, 10]) ++ (b ++ c))).length := by rw [← hB]; exact (bl_len B).symm
      rw [e1, ← hdr, List.length_drop, bl_len]
      omega
    exact cut_big B x L _ W (hV.below hbw) hB hn13 (by simp at hlen; omega) (by omega)) (by
    rw [hdr, M.cut_crlf _ _ hn13]
    show (x :: L).length ≤ 100000
    omega)
  rw [hp, progAns_write h1 h2 b c la (by omega)] at hA
  exact hA

set_option maxHeartbeats 4000000 in
theorem httpWrites_any (z : Int) (b : ByteArray) (la : Bool) (c : ByteArray) (w : World) (hV : Vars w) (hb : b.size ≤ 140737488351232) (hc : c.size ≤ 140737488351232) : Calls Tryz.prog 3 #[.int .i64 z, .string b, .bool la, .string c] w fun e w' => e = .returned (.bool true) ∧ Below w.heap.size w w' := by
  have HA := Lib.hid (awake_any w hV)
  by_cases hz : 100 ≤ z ∧ z ≤ 999
  · obtain ⟨s, rfl⟩ := Int.eq_ofNat_of_zero_le (show 0 ≤ z by omega)
    have h1 : 100 ≤ s := by omega
    have h2 : s ≤ 999 := by omega
    have hz1 : ¬ (s : Int) < 100 := by omega
    have hz2 : ¬ 999 < (s : Int) := by omega
    have HW := Lib.hid (fun W (hbw : Below w.heap.size w W) => Write_any s b la W h1 h2 (by omega) (hV.below hbw))
    have HR := Lib.hid (fun W => RefWrite_any s b la W h1 h2 (by omega))
    unfold SaysT at HR
    obtain ⟨O, hO⟩ : ∃ O : ByteArray, O = ⟨(M.writeB s (bl b) la).toArray⟩ := ⟨_, rfl⟩
    have hOb : bl O = M.writeB s (bl b) la := by rw [hO]
    have hOs : O.size = (M.writeB s (bl b) la).length := by rw [← hOb]; exact (bl_len O).symm
    rw [← hO] at HW HR
    have hOl : (M.writeB s (bl b) la).length ≤ 140737488355000 := by
      have h3 := words_len s
      have h4 := dec_three h1 h2
      have h5 := M.dec_len (n := (bl b).length) (k := 15) (by rw [bl_len]; omega) (by omega)
      have h6 : (M.tailB la).length ≤ 23 := by cases la <;> decide
      have h7 : (M.frontB s).length ≤ 100 := by unfold M.frontB M.v9 M.ctL; simp; omega
      unfold M.writeB
      simp only [List.length_append]
      rw [bl_len] at h5 ⊢
      omega
    have HAN := Lib.hid (fun W (hbw : Below w.heap.size w W) => Answer_write s h1 h2 (bl b) (bl c) la (O ++ c) (by rw [bl_cat, hOb]) (by rw [bl_len]; exact hb) (by rw [ByteArray.size_append]; omega) W (hV.below hbw))
    rw [← hOs] at HAN
    have hbb : (⟨(bl b).toArray⟩ : ByteArray) = b := bl_inj (by rw [bl_mk (bl b)])
    rw [hbb] at HAN
    have hsz : ¬ 9223372036854775807 < O.size + c.size := by omega
    clear hO hOb hOs hOl hV hbb hz hb hc
    go_enter Tryz.func3, Tryz.ntmps3
    go_wp2_with fail
    refine HA.out.mono ?_
    rintro e w1 ⟨rfl, hb⟩
    have HB1 := Lib.hid hb
    clear hb
    go_wp2_with fail
    refine (HW.out w1 HB1.out).mono ?_
    rintro e w2 ⟨rfl, hb⟩
    have HB2 := Lib.hid (HB1.out.trans (hb.mono HB1.out.size))
    clear hb
    go_wp2_with fail
    refine (HR.out w2).mono ?_
    rintro e w3 ⟨rfl, hb⟩
    have HB3 := Lib.hid (HB2.out.trans (hb.mono HB2.out.size))
    clear hb
    go_wp2_with fail
    refine (HAN.out w3 HB3.out).mono ?_
    rintro e w4 ⟨rfl, hb⟩
    have HB4 := Lib.hid (HB3.out.trans (hb.mono HB3.out.size))
    clear hb
    go_wp2
    go_ret
    exact ⟨by simp, HB4.out⟩
  · have HW := Lib.hid (fun W => Write_not z b la W hz)
    clear hV hb hc
    by_cases hz1 : z < 100
    · clear hz
      go_enter Tryz.func3, Tryz.ntmps3
      go_wp2_with fail
      refine HA.out.mono ?_
      rintro e w1 ⟨rfl, hb⟩
      have HB1 := Lib.hid hb
      clear hb
      go_wp2_with fail
      refine (HW.out w1).mono ?_
      rintro e w2 ⟨rfl, rfl⟩
      go_wp2
      go_ret
      exact ⟨by first | rfl | simp, HB1.out⟩
    · have hz2 : 999 < z := by omega
      clear hz
      go_enter Tryz.func3, Tryz.ntmps3
      go_wp2_with fail
      refine HA.out.mono ?_
      rintro e w1 ⟨rfl, hb⟩
      have HB1 := Lib.hid hb
      clear hb
      go_wp2_with fail
      refine (HW.out w1).mono ?_
      rintro e w2 ⟨rfl, rfl⟩
      go_wp2
      go_ret
      exact ⟨by first | rfl | simp, HB1.out⟩
end Go.Proofs.YtdbinhbmhkbfeaaGreatDoor
