/-
  What the library's variables hold ('Vars'); http.number, small, isPath and strings.Clone, by contracts.
-/
import Derived.Test.YtdbinhbmhkbfeaaGreatDoorHttpB
import Derived.Test.YtdbinhbmhkbfeaaGreatDoorShelf
import Derived.Lib.MapU
import Derived.Lib.AtoiErrMem
import Derived.Shelf.Strings.SlTrimAscii
namespace Go.Proofs.YtdbinhbmhkbfeaaGreatDoor
open Go.RowKit Mem
set_option linter.unusedVariables false
set_option maxRecDepth 100000

theorem gPow : Tryz.prog.globalNamed "internal/strconv.uint64pow10" = some 1 := by kernel_rfl
/-- the library's variables as its text lays them -/
structure Vars (w : World) : Prop where
  tabs : Lib.Utf8Tabs 6 7 w
  pow : Lib.TabIs Tryz.prog w "internal/strconv.uint64pow10" .u64 Lib.pow10Tab
  max : ∃ m, w.cell? ⟨0, 0, none⟩ = some (.int .i64 m)
  errS : ∃ tp p, w.cell? ⟨2, 0, none⟩ = some (.iface tp p)
  errR : ∃ tp p, w.cell? ⟨3, 0, none⟩ = some (.iface tp p)
theorem cellOn {w w' : World} {p : Addr} {v : Value} (h : w.cell? p = some v) (hb : Below w.heap.size w w') : w'.cell? p = some v := (hb.cell (World.block_lt_of_cell? w _ h)).trans h
theorem tab_below {n : String} {g : Nat} {k : IntKind} {zs : List Int} {w w' : World} (hg : Tryz.prog.globalNamed n = some g) (h : Lib.TabIs Tryz.prog w n k zs) (hb : Below w.heap.size w w') : Lib.TabIs Tryz.prog w' n k zs := by
  unfold Lib.TabIs World.var? at *
  rw [hg] at *
  simp only [Option.bind_some] at *
  cases hx : w.heap[g]? with
  | none => rw [hx] at h; cases h
  | some o =>
    rw [hb.block g (Array.getElem?_eq_some_iff.1 hx).1]
    exact h
theorem Vars.below {w w' : World} (h : Vars w) (hb : Below w.heap.size w w') : Vars w' where
  tabs := ⟨fun c hc => cellOn (h.tabs.1 c hc) hb, fun i hi => ⟨cellOn (h.tabs.2 i hi).1 hb, cellOn (h.tabs.2 i hi).2 hb⟩⟩
  pow := tab_below gPow h.pow hb
  max := h.max.imp fun _ hm => cellOn hm hb
  errS := h.errS.imp fun _ hm => hm.imp fun _ hm => cellOn hm hb
  errR := h.errR.imp fun _ hm => hm.imp fun _ hm => cellOn hm hb
theorem below_grow (w : World) (k : Nat) (os : Array Obj) : Below w.heap.size w (Sort.grow (w.drewN k) os) :=
  ⟨rfl, rfl, rfl, by simp, fun i hi => Sort.heap_grow_old (w.drewN k) os hi⟩

set_option maxHeartbeats 400000 in
theorem clone_any (s : ByteArray) (w : World) (hs : s.size ≤ 281474976710656) : Calls Tryz.prog 21 #[.string s] w fun e w' => e = .returned (.string s) ∧ Below w.heap.size w w' := by
  have HC := Lib.hid (Tryz.stringslite_Clone s w hs)
  go_enter Tryz.func21, Tryz.ntmps21
  go_wp2_with fail
  refine HC.out.mono ?_
  rintro e w1 ⟨rfl, hb⟩
  go_wp2
  go_ret
  exact ⟨rfl, hb⟩

theorem hasPrefix_47 (l : List UInt8) : Lib.hasPrefix l [47] = decide (l.head? = some 47) := by
  unfold Lib.hasPrefix
  cases l with
  | nil => rfl
  | cons b l =>
    rw [Bool.eq_iff_iff]
    simp [List.isPrefixOf]
    exact eq_comm

set_option maxHeartbeats 2000000 in
theorem isPath_any (s : ByteArray) (w : World) : Calls Tryz.prog 45 #[.string s] w (SaysB (M.isPath (bl s)) w) := by
  have H0 := Lib.hid (PreAll.zero M.pathB (bl s))
  go_enter Tryz.func45, Tryz.ntmps45
  go_wp2
  go_loopw [2] (fun _ w' => ∃ pos : Nat, w' = w.iter s pos ∧ Hid (PreAll M.pathB (bl s) pos)) (fun _ w' => s.size - w'.iterPos w.heap.size)
  case atStart => exact ⟨0, rfl, H0⟩
  case round =>
    obtain ⟨pos, rfl, HI⟩ := hrel
    by_cases hp : pos < s.size
    · have hpl : pos < (bl s).length := by rw [bl_len]; exact hp
      have hnx : ∀ ty, (Instr.next (.pointer (some ⟨w.heap.size, 0, none⟩)) true ty).run Tryz.prog (w.iter s pos) = _ := fun ty => run_next_any w s pos ty hp
      have hiff := pathB_iff (s[pos])
      by_cases ha : (s[pos]).toNat < 128
      · rw [decode_ascii s pos hp ha] at hnx
        have HN := Lib.hid (HI.out.next hpl)
        have HF := Lib.hid (all_false (f := M.pathB) hpl)
        have e : (bl s)[pos] = s[pos] := rfl
        rw [e] at HN HF
        obtain ⟨x, hx⟩ : ∃ x, (s[pos]).toNat = x := ⟨_, rfl⟩
        rw [hx] at hiff hnx ha
        simp only at hnx
        generalize M.pathB s[pos] = q at *
        clear e hx hpl
        by_cases hq : q = true
        · have hc := hiff.1 hq
          have HQ := Lib.hid hq
          clear hiff hq
          obtain ⟨h1, h2⟩ := hc
          go_wp2
          go_roundw
          case rel => exact ⟨pos + 1, rfl, Lib.hid (HN.out HQ.out)⟩
          case measure => simp; omega
        · have hc : ¬ _ := fun h => hq (hiff.2 h)
          have HQ := Lib.hid (show M.isPath (bl s) = false by unfold M.isPath; rw [HF.out (by simpa using hq)]; rfl)
          clear hiff hq
          by_cases h1 : x ≤ 32 <;> by_cases h2 : 126 < x <;> first | (exfalso; omega) | skip
          all_goals
            clear hc
            go_wp2
            go_ret
            exact ⟨by rw [HQ.out]; rfl, bel_iter _ _ _⟩
      · have hd := decode_high s pos hp (by omega)
        have HQ := Lib.hid (show M.isPath (bl s) = false by
          unfold M.isPath
          rw [all_false (f := M.pathB) hpl (by rw [Bool.eq_false_iff]; intro h; have := (pathB_iff _).1 h; rw [show (bl s)[pos] = s[pos] from rfl] at this; omega)]; rfl)
        obtain ⟨hd1, hd2⟩ := hd
        generalize (Utf8.decode s pos).1 = r at *
        generalize (Utf8.decode s pos).2 = k at *
        clear hiff ha hpl
        go_wp2
        go_ret
        exact ⟨by rw [HQ.out]; rfl, bel_iter _ _ _⟩
    · have hnx : ∀ ty, (Instr.next (.pointer (some ⟨w.heap.size, 0, none⟩)) true ty).run Tryz.prog (w.iter s pos) = _ := fun ty => run_next_end w s pos ty hp
      have HA := Lib.hid (HI.out.whole (by rw [bl_len]; omega))
      have HP := Lib.hid (Tryz.strings_HasPrefix s ⟨#[47]⟩ (w.iter s pos))
      go_wp2_with fail
      refine HP.out.mono ?_
      rintro e w1 ⟨rfl, rfl⟩
      have HH := Lib.hid (show Lib.hasPrefix s.data.toList [47] = M.isPath (bl s) by unfold M.isPath; rw [HA.out, hasPrefix_47]; rfl)
      change Hid (Lib.hasPrefix s.data.toList (ByteArray.data ⟨#[47]⟩).toList = M.isPath (bl s)) at HH
      generalize Lib.hasPrefix s.data.toList (ByteArray.data ⟨#[47]⟩).toList = q at *
      go_wp2
      go_ret
      exact ⟨by rw [← HH.out]; rfl, bel_iter _ _ _⟩

/-! ### letters' case -/
def lowZ (x : Int) : Int := if 65 ≤ x ∧ x ≤ 90 then x - 65 + 97 else x
theorem enc_high {r : Int} (h : 128 ≤ r) : ∃ x y, Lib.encodeRune r = x :: y ∧ 128 ≤ x.toNat := by
  unfold Lib.encodeRune
  by_cases h1 : r ≤ 2047
  · rw [Lib.encodeRuneZ_two h h1]
    refine ⟨_, _, rfl, ?_⟩
    simp only [Nat.toUInt8, UInt8.toNat_ofNat']
    omega
  · by_cases h2 : (55296 ≤ r ∧ r ≤ 57343) ∨ 1114111 < r
    · rw [Lib.encodeRuneZ_bad (.inr h2)]
      exact ⟨_, _, rfl, by decide⟩
    · by_cases h3 : r ≤ 65535
      · rw [Lib.encodeRuneZ_three (by omega)]
        refine ⟨_, _, rfl, ?_⟩
        simp only [Nat.toUInt8, UInt8.toNat_ofNat']
        omega
      · rw [Lib.encodeRuneZ_four (by omega) (by omega)]
        refine ⟨_, _, rfl, ?_⟩
        simp only [Nat.toUInt8, UInt8.toNat_ofNat']
        omega
theorem enc_low {b : UInt8} (h : b.toNat < 128) : Lib.encodeRune (lowZ (b.toNat : Int)) = [M.lowr b] := by
  unfold Lib.encodeRune
  by_cases hc : 65 ≤ b.toNat ∧ b.toNat ≤ 90
  · have e : lowZ (b.toNat : Int) = (b.toNat : Int) + 32 := by unfold lowZ; rw [if_pos (by omega)]; omega
    rw [e, Lib.encodeRuneZ_one (by omega) (by omega)]
    unfold M.lowr
    rw [if_pos hc]
    simp only [List.map_cons, List.map_nil, List.cons.injEq, and_true]
    apply UInt8.toNat_inj.1
    rw [UInt8.toNat_add]
    simp only [Nat.toUInt8, UInt8.toNat_ofNat']
    change _ = (b.toNat + 32) % 256
    omega
  · have e : lowZ (b.toNat : Int) = (b.toNat : Int) := by unfold lowZ; rw [if_neg (by omega)]
    rw [e, Lib.encodeRuneZ_one (by omega) (by omega)]
    unfold M.lowr
    rw [if_neg hc]
    simp
theorem mapGo_low : ∀ (n : Nat) (l : List UInt8), l.length ≤ n → ∀ t : List UInt8, (t.all fun b => decide (b.toNat < 128)) = true → (Lib.mapGoD lowZ n l = t ↔ l.map M.lowr = t) := by
  intro n
  induction n with
  | zero =>
    intro l hl t _
    obtain rfl : l = [] := List.length_eq_zero_iff.1 (by omega)
    rfl
  | succ n ih =>
    intro l hl t ht
    cases l with
    | nil => simp [Lib.mapGoD]
    | cons b r =>
      unfold Lib.mapGoD
      rw [if_neg (by simp)]
      have hp : 0 < (⟨(b :: r).toArray⟩ : ByteArray).size := by show 0 < (b :: r).toArray.size; simp
      have h0 : ((⟨(b :: r).toArray⟩ : ByteArray)[0]'hp) = b := rfl
      unfold Lib.decodeL
      by_cases hb : b.toNat < 128
      · rw [decode_ascii _ 0 hp (by rw [h0]; exact hb), h0]
        simp only [enc_low hb]
        have hnn : 0 ≤ lowZ (b.toNat : Int) := by unfold lowZ; split <;> omega
        rw [if_pos hnn]
        cases t with
        | nil => simp
        | cons c t =>
          rw [List.all_cons, Bool.and_eq_true] at ht
          have := ih r (by simpa using hl) t ht.2
          simp only [List.drop_succ_cons, List.drop_zero, List.cons_append, List.nil_append, List.map_cons, List.cons.injEq, this]
      · have hd := decode_high _ 0 hp (by rw [h0]; omega)
        generalize Utf8.decode ⟨(b :: r).toArray⟩ 0 = q at *
        have hq : lowZ (q.1 : Int) = (q.1 : Int) := by unfold lowZ; rw [if_neg (by omega)]
        rw [hq, if_pos (by omega)]
        obtain ⟨x, y, e, hx⟩ := enc_high (r := (q.1 : Int)) (by omega)
        rw [e]
        have hlb : M.lowr b = b := by unfold M.lowr; rw [if_neg (by omega)]
        cases t with
        | nil => simp
        | cons c t =>
          rw [List.all_cons, Bool.and_eq_true, decide_eq_true_eq] at ht
          simp only [List.cons_append, List.cons.injEq, List.map_cons, hlb]
          constructor
          · intro h; have := congrArg UInt8.toNat h.1; omega
          · intro h; have := congrArg UInt8.toNat h.1; omega
theorem mapD_low (l t : List UInt8) (ht : (t.all fun b => decide (b.toNat < 128)) = true) : (Lib.mapD lowZ l = t) ↔ (l.map M.lowr = t) := mapGo_low _ l (Nat.le_refl _) t ht

set_option maxHeartbeats 400000 in
theorem small1_any (x : Nat) (hx : x ≤ 1114111) (W : World) : Calls Tryz.prog 73 #[.int .i32 (x : Int)] W fun e w' => e = .returned (.int .i32 (lowZ (x : Int))) ∧ Below W.heap.size W w' := by
  by_cases h1 : 65 ≤ x <;> by_cases h2 : x ≤ 90
  · have HE := Lib.hid (show lowZ (x : Int) = (x : Int) - 65 + 97 by unfold lowZ; rw [if_pos (by omega)])
    go_enter Tryz.func73, Tryz.ntmps73
    go_wp2
    go_ret
    exact ⟨by rw [HE.out]; rfl, Below.refl _ _⟩
  all_goals
    have HE := Lib.hid (show lowZ (x : Int) = (x : Int) by unfold lowZ; rw [if_neg (by omega)])
    go_enter Tryz.func73, Tryz.ntmps73
    all_goals first
      | (exfalso; omega)
      | (go_wp2; go_ret; exact ⟨by rw [HE.out]; rfl, Below.refl _ _⟩)
      | fail
theorem lowZ_in (x : Nat) (hx : x ≤ 1114111) : -2147483648 ≤ lowZ x ∧ lowZ x ≤ 2147483647 := by unfold lowZ; split <;> omega

set_option maxHeartbeats 400000 in
theorem small_any (s : ByteArray) (w : World) (hs : s.size < 35184372088832) (hV : Vars w) : Calls Tryz.prog 48 #[.string s] w (SaysT (Lib.mapD lowZ (bl s)) w) := by
  have HC := Lib.hid (Tryz.strings_Map_grows 73 #[] (enters_of Tryz.func73 (by kernel_rfl) rfl) lowZ s w hs (fun W x hx _ => small1_any x hx W) lowZ_in hV.tabs)
  clear hV
  go_enter Tryz.func48, Tryz.ntmps48
  go_wp2_with fail
  refine HC.out.mono ?_
  rintro e w1 ⟨rfl, hb⟩
  go_wp2
  go_ret
  exact ⟨rfl, hb⟩

/-! ### numbers -/
def numT (l : List UInt8) : Value := match M.num l with
  | some n => .tuple #[.int .i64 (n : Int), .bool true]
  | none => .tuple #[.int .i64 0, .bool false]
theorem num_ok {l : List UInt8} {v : Int} (h : Lib.atoiAll l = .ok v) : M.num l = if 0 ≤ v ∧ Lib.itoa v = l then some v.toNat else none := by unfold M.num; rw [h]
theorem num_no {l : List UInt8} (h : ∀ v, Lib.atoiAll l ≠ .ok v) : M.num l = none := by
  unfold M.num
  split
  · rename_i v hv; exact absurd hv (h v)
  · rfl
theorem atoi_in {l : List UInt8} {v : Int} (h : Lib.atoiAll l = .ok v) : -9223372036854775808 ≤ v ∧ v ≤ 9223372036854775807 := by
  have := Lib.atoiAll_bounds h; omega

set_option maxHeartbeats 1000000 in
theorem number_any (s : ByteArray) (w : World) (hs : s.size ≤ 140737488355328) (hV : Vars w) : Calls Tryz.prog 19 #[.string s] w fun e w' => e = .returned (numT (bl s)) ∧ Below w.heap.size w w' := by
  have HV := Lib.hid hV
  clear hV
  cases hend : Lib.atoiAll (bl s) with
  | ok v =>
    have HC := Lib.hid (Tryz.strconv_Atoi_ok s (by omega) v hend w)
    have HN := Lib.hid (num_ok hend)
    obtain ⟨hv0, hv1⟩ := atoi_in hend
    clear hend
    by_cases hneg : v < 0
    · have HX := Lib.hid (show numT (bl s) = .tuple #[.int .i64 0, .bool false] by unfold numT; rw [HN.out, if_neg (by omega)])
      go_enter Tryz.func19, Tryz.ntmps19
      go_wp2_with fail
      refine HC.out.mono ?_
      rintro e w1 ⟨rfl, hw⟩
      have HB := Lib.hid (show Below w.heap.size w w1 by rcases hw with rfl | ⟨t, rfl⟩ <;> first | exact Below.refl _ _ | exact Lib.bytesWorld_below _ _ _)
      clear hw
      go_wp2
      go_ret2
      exact ⟨by rw [HX.out]; rfl, HB.out⟩
    · have HI := Lib.hid (fun w1 (hb : Below w.heap.size w w1) => Tryz.strconv_Itoa v hv0 hv1 w1 (HV.out.below hb).pow)
      have hnn : 0 ≤ v := by omega
      by_cases he : Lib.itoa v = bl s
      · have HX := Lib.hid (show numT (bl s) = .tuple #[.int .i64 v, .bool true] by
          unfold numT; rw [HN.out, if_pos ⟨hnn, he⟩]
          show Value.tuple #[.int .i64 ((v.toNat : Nat) : Int), .bool true] = _
          rw [Int.toNat_of_nonneg hnn])
        have hq : (Lib.itoa v == s.toList) = true := by rw [eq_str]; simpa using he
        clear he
        go_enter Tryz.func19, Tryz.ntmps19
        go_wp2_with fail
        refine HC.out.mono ?_
        rintro e w1 ⟨rfl, hw⟩
        have HB := Lib.hid (show Below w.heap.size w w1 by rcases hw with rfl | ⟨t, rfl⟩ <;> first | exact Below.refl _ _ | exact Lib.bytesWorld_below _ _ _)
        clear hw
        go_wp2_with fail
        refine (HI.out w1 HB.out).mono ?_
        rintro e w2 ⟨rfl, k, os, hw⟩
        have HB2 := Lib.hid (show Below w.heap.size w w2 by rw [hw]; exact HB.out.trans ((below_grow w1 k os).mono HB.out.size))
        clear hw
        generalize Lib.itoa v = il at *
        go_wp2
        go_ret2
        exact ⟨by rw [HX.out]; rfl, HB2.out⟩
      · have HX := Lib.hid (show numT (bl s) = .tuple #[.int .i64 0, .bool false] by unfold numT; rw [HN.out, if_neg (fun h => he h.2)])
        have hq : (Lib.itoa v == s.toList) = false := by rw [eq_str]; simpa using he
        clear he
        go_enter Tryz.func19, Tryz.ntmps19
        go_wp2_with fail
        refine HC.out.mono ?_
        rintro e w1 ⟨rfl, hw⟩
        have HB := Lib.hid (show Below w.heap.size w w1 by rcases hw with rfl | ⟨t, rfl⟩ <;> first | exact Below.refl _ _ | exact Lib.bytesWorld_below _ _ _)
        clear hw
        go_wp2_with fail
        refine (HI.out w1 HB.out).mono ?_
        rintro e w2 ⟨rfl, k, os, hw⟩
        have HB2 := Lib.hid (show Below w.heap.size w w2 by rw [hw]; exact HB.out.trans ((below_grow w1 k os).mono HB.out.size))
        clear hw
        generalize Lib.itoa v = il at *
        go_wp2
        go_ret2
        exact ⟨by rw [HX.out]; rfl, HB2.out⟩
  | «syntax» =>
    have HX := Lib.hid (show numT (bl s) = .tuple #[.int .i64 0, .bool false] by unfold numT; rw [num_no (by rw [hend]; intro v h; cases h)])
    obtain ⟨tp, p, hc⟩ := HV.out.errS
    have HC := Lib.hid (Tryz.strconv_Atoi_syntax s (by omega) hend _ w hc (.inr ⟨tp, p, rfl⟩))
    clear hend hc
    go_enter Tryz.func19, Tryz.ntmps19
    go_wp2_with fail
    refine HC.out.mono ?_
    rintro e w1 ⟨N, rfl, _, _, hb⟩
    go_wp2
    go_ret2
    exact ⟨by rw [HX.out]; rfl, hb⟩
  | range =>
    have HX := Lib.hid (show numT (bl s) = .tuple #[.int .i64 0, .bool false] by unfold numT; rw [num_no (by rw [hend]; intro v h; cases h)])
    obtain ⟨tp, p, hc⟩ := HV.out.errR
    have HC := Lib.hid (Tryz.strconv_Atoi_range s (by omega) hend _ w hc (.inr ⟨tp, p, rfl⟩))
    clear hend hc
    go_enter Tryz.func19, Tryz.ntmps19
    go_wp2_with fail
    refine HC.out.mono ?_
    rintro e w1 ⟨N, rfl, _, _, hb⟩
    go_wp2
    go_ret2
    exact ⟨by rw [HX.out]; rfl, hb⟩
end Go.Proofs.YtdbinhbmhkbfeaaGreatDoor
