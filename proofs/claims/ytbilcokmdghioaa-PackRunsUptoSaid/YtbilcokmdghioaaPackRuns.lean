/-
  The law PackRuns, by the contracts: texts and numbers one behind the other are read again, one by one.
-/
import Derived.Test.YtbilcokmdghioaaPackL
import Derived.Test.YtbilcokmdghioaaMemV
namespace Go.Proofs.Ytbilcokmdghioaa
open Go.RowKit Mem

/-- what is laid for the i-th text -/
def part (ss : List ByteArray) (vs : List Nat) (i : Nat) : List UInt8 := M.text (ss[i]?.getD ByteArray.empty).data.toList ++ (if i < vs.length then M.uv (vs[i]?.getD 0) else [])
def build (ss : List ByteArray) (vs : List Nat) : Nat → List UInt8
  | 0 => []
  | k + 1 => build ss vs k ++ part ss vs k
theorem build_split (ss : List ByteArray) (vs : List Nat) (k : Nat) : ∀ d, ∃ r, build ss vs (k + d) = build ss vs k ++ r := by
  intro d
  induction d with
  | zero => exact ⟨[], by simp⟩
  | succ d ih =>
    obtain ⟨r, hr⟩ := ih
    exact ⟨r ++ part ss vs (k + d), by rw [← Nat.add_assoc, build, hr, List.append_assoc]⟩
theorem build_at (ss : List ByteArray) (vs : List Nat) {k n : Nat} (h : k < n) : ∃ r, build ss vs n = build ss vs k ++ (part ss vs k ++ r) := by
  obtain ⟨r, hr⟩ := build_split ss vs (k + 1) (n - (k + 1))
  rw [show k + 1 + (n - (k + 1)) = n from by omega, build, List.append_assoc] at hr
  exact ⟨r, hr⟩
theorem build_mono (ss : List ByteArray) (vs : List Nat) {k n : Nat} (h : k ≤ n) : (build ss vs k).length ≤ (build ss vs n).length := by
  obtain ⟨r, hr⟩ := build_split ss vs k (n - k)
  rw [show k + (n - k) = n from by omega] at hr
  rw [hr]; simp

theorem le_sum : ∀ {l : List Nat} {x : Nat}, x ∈ l → x ≤ l.sum
  | [], _, h => by simp at h
  | y :: r, x, h => by
    rcases List.mem_cons.1 h with h | h
    · subst h; simp
    · have := le_sum h; simp; omega
theorem build_len (ss : List ByteArray) (vs : List Nat) : ∀ n, n ≤ ss.length → (build ss vs n).length ≤ ((ss.take n).map ByteArray.size).sum + 20 * n := by
  intro n
  induction n with
  | zero => intro _; simp [build]
  | succ n ih =>
    intro h
    have h1 := ih (by omega)
    have hul := M.uv_len (ss[n]'(by omega)).size
    have hux := M.uv_len (vs[n]?.getD 0)
    have hs : (M.text (ss[n]?.getD ByteArray.empty).data.toList).length = (M.uv (ss[n]'(by omega)).size).length + (ss[n]'(by omega)).size := by
      rw [List.getElem?_eq_getElem (by omega)]; simp [M.text]
    have hi : (if n < vs.length then M.uv (vs[n]?.getD 0) else []).length ≤ 10 := by
      split
      · omega
      · simp
    rw [build, part, List.length_append, List.length_append, hs, List.take_succ_eq_append_getElem (by omega), List.map_append, List.sum_append]
    simp only [List.map_cons, List.map_nil, List.sum_cons, List.sum_nil]
    omega

set_option maxRecDepth 100000 in
set_option maxHeartbeats 4000000 in
theorem packRuns_any (A : Option Addr) (n c : Nat) (ss : List ByteArray) (A' : Option Addr) (n' c' : Nat) (vs : List Nat) (w : World)
    (h : RdV w w.heap.size A n c (ss.map Value.string)) (h' : RdV w w.heap.size A' n' c' (vs.map fun (v : Nat) => Value.int .u64 (v : Int)))
    (hs : ∀ s ∈ ss, s.size ≤ 1048576) (hv : ∀ v ∈ vs, v < 18446744073709551616) (hsum : n ≤ 200 → (build ss vs n).length ≤ 2000000) (hz : c ≤ 1048576) (hz' : c' ≤ 1048576) :
    Calls Try.prog 9 #[.slice A n c, .slice A' n' c'] w (Yes w) := by
  have hc := h.2.1
  have hc' := h'.2.1
  have HN := Lib.hid (show n = ss.length by simpa using h.1)
  have HN' := Lib.hid (show n' = vs.length by simpa using h'.1)
  by_cases hbig : 200 < n + n'
  · go_enter Try.func9, Try.ntmps9
    go_wp2_with fail
    refine (awake_any w).mono ?_
    rintro e w1 ⟨rfl, hb1⟩
    go_wp2_with fail
    refine (awake_any w1).mono ?_
    rintro e w2 ⟨rfl, hb2⟩
    go_wp2
    go_ret
    exact ⟨rfl, hb1.trans (hb2.mono hb1.size)⟩
  have hd200 : decide ((200 : Int) < (n : Int) + (n' : Int)) = false := by simp; omega
  have HS := Lib.hid hs
  have HV := Lib.hid hv
  have HL := Lib.hid (hsum (by omega))
  clear hs hv hsum
  obtain ⟨i0, hi, hz0, hz1, hz2⟩ := info_parts Try.info_byte
  have HI := Lib.hid hi; have HZ0 := Lib.hid hz0; have HZ1 := Lib.hid hz1; have HZ2 := Lib.hid hz2
  clear hi hz0 hz1 hz2
  go_enter Try.func9, Try.ntmps9
  go_wp2_with fail
  refine (awake_any w).mono ?_
  rintro e w1 ⟨rfl, hb1⟩
  go_wp2
  go_loopw [5, 6] (fun p i wr => ∃ k : Nat, k ≤ n ∧ i = .int .i64 k ∧ Own wr w1.heap.size 5 p (build ss vs k) ∧ Below w1.heap.size w1 wr) (fun _ i _ => n - (intOf i).toNat)
  case atStart => exact ⟨0, Nat.zero_le _, rfl, Own.nil _ _ _, Below.refl _ _⟩
  case round =>
    obtain ⟨k, hk, rfl, hown, hbel⟩ := hrel
    by_cases hlt : k < n
    · have hB := hb1.trans (hbel.mono hb1.size)
      obtain ⟨b, off, rfl, hb, hcells⟩ := (h.below hB).2.2.2 (by omega)
      have hcell := hcells k hlt
      have hkl : k < ss.length := by have := HN.out; omega
      rw [List.getElem?_map, List.getElem?_eq_getElem hkl, Option.map_some] at hcell
      obtain ⟨s, hs⟩ : ∃ s, s = ss[k] := ⟨_, rfl⟩
      rw [← hs] at hcell
      have hsz : s.size ≤ 1048576 := by rw [hs]; exact HS.out _ (List.getElem_mem hkl)
      have HSK := Lib.hid (show ss[k]?.getD ByteArray.empty = s by rw [List.getElem?_eq_getElem hkl, hs]; rfl)
      clear hs hcells
      have hsize := hbel.size
      have hul := M.uv_len s.size
      have hmono := build_mono ss vs (show k + 1 ≤ n by omega)
      have hmono0 := build_mono ss vs (show k ≤ n by omega)
      have HPART : Hid (build ss vs (k + 1) = build ss vs k ++ (M.text s.data.toList ++ (if k < vs.length then M.uv (vs[k]?.getD 0) else []))) := by
        show _ = _
        rw [build, part, HSK.out]
      have HTL := Lib.hid (show (M.text s.data.toList).length = (M.uv s.size).length + s.size by simp [M.text])
      go_wp2_with fail
      refine (text_any s _ (by omega)).mono ?_
      rintro e w2 ⟨q, rfl, hq, hb2⟩
      obtain ⟨A2, c2, rfl, hr2⟩ := hq.open_
      have hown2 := hown.below hb2
      have hsz2 : w1.heap.size ≤ w2.heap.size := Nat.le_trans hsize hb2.size
      go_wp2_with (at_builtin; go_must (refine wpList_app w2 rfl (.tmp 32) (.tmp 37) _ rfl w1.heap.size _ _ i0 Try.underlying24 HI.out HZ0.out HZ1.out HZ2.out _ _ hown2 rfl _ _ _ _ hr2 rfl ?_ hsz2 ?_))
      · have := HTL.out; have := HL.out; omega
      intro v3 w3 hv3 hg3 _
      have hb3 := below_own hown2 hsz2 hg3
      have hB13 := (hbel.trans (hb2.mono hsize)).trans hb3
      have hB3 := hb1.trans (hB13.mono hb1.size)
      by_cases hkv : k < n'
      · have hkv' : k < vs.length := by have := HN'.out; omega
        obtain ⟨b', off', rfl, hb', hcells'⟩ := (h'.below hB3).2.2.2 (by omega)
        have hcell' := hcells' k hkv
        rw [List.getElem?_map, List.getElem?_eq_getElem hkv', Option.map_some] at hcell'
        obtain ⟨x, hx⟩ : ∃ x, x = vs[k] := ⟨_, rfl⟩
        rw [← hx] at hcell'
        have hx64 : x < 18446744073709551616 := by rw [hx]; exact HV.out _ (List.getElem_mem hkv')
        have HP2 : Hid (build ss vs (k + 1) = (build ss vs k ++ M.text s.data.toList) ++ M.uv x) := by
          show _ = _
          rw [HPART.out, if_pos hkv', List.getElem?_eq_getElem hkv', ← hx, ← List.append_assoc]; rfl
        clear hx hcells'
        have hsz3 : w1.heap.size ≤ w3.heap.size := hB13.size
        have hulx := M.uv_len x
        go_wp2_with fail
        refine (uvarint_any x _ hx64).mono ?_
        rintro e w4 ⟨q4, rfl, hq4, hb4⟩
        obtain ⟨A4, c4, rfl, hr4⟩ := hq4.open_
        have hv4 := hv3.below hb4
        have hsz4 : w1.heap.size ≤ w4.heap.size := Nat.le_trans hsz3 hb4.size
        go_wp2_with (at_builtin; go_must (refine wpList_app w4 rfl (.tmp 43) (.tmp 48) _ rfl w1.heap.size _ _ i0 Try.underlying24 HI.out HZ0.out HZ1.out HZ2.out _ _ hv4 rfl _ _ _ _ hr4 rfl ?_ hsz4 ?_))
        · have := HTL.out; have := HL.out; rw [List.length_append]; omega
        intro v5 w5 hv5 hg5 _
        have hb5 := below_own hv4 hsz4 hg5
        have hB15 := (hB13.trans (hb4.mono hsz3)).trans hb5
        go_wp2
        go_roundw
        case rel => exact ⟨k + 1, by omega, by go_num, by rw [HP2.out]; simpa using hv5, hB15⟩
        case measure => simp [intOf]; omega
      · have HP2 : Hid (build ss vs (k + 1) = build ss vs k ++ M.text s.data.toList) := by
          show _ = _
          rw [HPART.out, if_neg (by have := HN'.out; omega), List.append_nil]
        go_wp2
        go_roundw
        case rel => exact ⟨k + 1, by omega, by go_num, by rw [HP2.out]; exact hv3, hB13⟩
        case measure => simp [intOf]; omega
    · have HKN := Lib.hid (show k = n by omega)
      have hB := hb1.trans (hbel.mono hb1.size)
      have hown' : Own wr w1.heap.size 5 u5 (build ss vs n) := by rw [← HKN.out]; exact hown
      clear hown
      obtain ⟨WH, hWH⟩ : ∃ WH, WH = build ss vs n := ⟨_, rfl⟩
      rw [← hWH] at hown' HL
      have HWH := Lib.hid hWH
      clear hWH
      have hWL := HL.out
      obtain ⟨A5, c5, rfl, hr5⟩ := hown'.open_
      have hge : ¬ k < n := hlt
      go_wp2
      rename World => wa
      go_loopw [7, 8] (fun a i wq => ∃ (j t : Nat), j ≤ n ∧ i = .int .i64 j ∧ a = .int .i64 t ∧ t ≤ WH.length ∧ t = (build ss vs j).length ∧ Below wa.heap.size wa wq) (fun _ i _ => n - (intOf i).toNat)
      case atStart => exact ⟨0, 0, Nat.zero_le _, rfl, rfl, Nat.zero_le _, rfl, Below.refl _ _⟩
      case round =>
        obtain ⟨j, t, hj, rfl, rfl, htl, ht, hbq⟩ := hrel
        have HT := Lib.hid ht
        clear ht
        have hBq := hB.trans (hbq.mono hB.size)
        have hrq := hr5.below hbq
        by_cases hjl : j < n
        · obtain ⟨b, off, rfl, hb, hcells⟩ := (h.below hBq).2.2.2 (by omega)
          have hcell := hcells j hjl
          have hkl : j < ss.length := by have := HN.out; omega
          rw [List.getElem?_map, List.getElem?_eq_getElem hkl, Option.map_some] at hcell
          obtain ⟨s, hs⟩ : ∃ s, s = ss[j] := ⟨_, rfl⟩
          rw [← hs] at hcell
          have hsz : s.size ≤ 1048576 := by rw [hs]; exact HS.out _ (List.getElem_mem hkl)
          have HSK := Lib.hid (show ss[j]?.getD ByteArray.empty = s by rw [List.getElem?_eq_getElem hkl, hs]; rfl)
          clear hs hcells
          have HTL := Lib.hid (show (M.text s.data.toList).length = (M.uv s.size).length + s.size by simp [M.text])
          obtain ⟨r, hr⟩ : ∃ r, WH = build ss vs j ++ (M.text s.data.toList ++ ((if j < vs.length then M.uv (vs[j]?.getD 0) else []) ++ r)) := by
            obtain ⟨r, hr⟩ := build_at ss vs hjl
            exact ⟨r, by rw [HWH.out, hr, part, HSK.out, List.append_assoc]⟩
          have HR := Lib.hid hr
          clear hr
          obtain ⟨t2, ht2⟩ : ∃ t2, t2 = t + (M.text s.data.toList).length := ⟨_, rfl⟩
          have ht2l : t2 ≤ WH.length := by rw [ht2, HR.out, HT.out]; simp
          have HT2 := Lib.hid ht2
          clear ht2
          have e1 : M.rdText WH t s.size = (s.data.toList, t2, 0) := by
            have := M.rdText_text (build ss vs j) s.data.toList ((if j < vs.length then M.uv (vs[j]?.getD 0) else []) ++ r) s.size (by simp; omega)
            rw [← HR.out, ← HT.out] at this
            rw [this, if_neg (by simp), HT2.out]
          have E1 := Lib.hid e1
          clear e1
          go_wp2_with fail
          refine (readText_any A5 _ c5 _ WH t s.size _ hrq (by omega) (by omega) (by omega) (by omega)).mono ?_
          rintro e w6 ⟨rfl, hb6⟩
          rw [E1.out]
          simp only
          have hB6 := hBq.trans (hb6.mono hBq.size)
          have hbq6 := hbq.trans (hb6.mono hbq.size)
          have hcell6 := (hb6.cell (p := ⟨b, off + j, none⟩) (Nat.lt_of_lt_of_le hb hBq.size)).trans hcell
          by_cases hjv : j < n'
          · have hjv' : j < vs.length := by have := HN'.out; omega
            obtain ⟨b', off', rfl, hb', hcells'⟩ := (h'.below hB6).2.2.2 (by omega)
            have hcell' := hcells' j hjv
            rw [List.getElem?_map, List.getElem?_eq_getElem hjv', Option.map_some] at hcell'
            obtain ⟨x, hx⟩ : ∃ x, x = vs[j] := ⟨_, rfl⟩
            rw [← hx] at hcell'
            have hx64 : x < 18446744073709551616 := by rw [hx]; exact HV.out _ (List.getElem_mem hjv')
            have HX := Lib.hid (show vs[j]?.getD 0 = x by rw [List.getElem?_eq_getElem hjv', hx]; rfl)
            clear hx hcells'
            obtain ⟨t3, ht3⟩ : ∃ t3, t3 = t2 + (M.uv x).length := ⟨_, rfl⟩
            have hW2 : WH = (build ss vs j ++ M.text s.data.toList) ++ (M.uv x ++ r) := by
              rw [HR.out, if_pos hjv', HX.out]; simp
            have HT3 : Hid (t3 = (build ss vs (j + 1)).length ∧ t3 ≤ WH.length) := by
              show _ ∧ _
              rw [build, part, HSK.out, if_pos hjv', HX.out, ht3, HT2.out, HT.out, hW2]
              simp; omega
            have E2 : Hid (M.rdAt WH t2 = (x, t3, 0)) := by
              show _ = _
              have := M.rdAt_uv (build ss vs j ++ M.text s.data.toList) r x hx64
              rw [← hW2, List.length_append, ← HT.out, ← HT2.out, ← ht3] at this
              exact this
            clear hW2 ht3
            have hr6 := hrq.below (hb6.mono hbq.size)
            go_wp2_with fail
            refine (readUvarint_any A5 _ c5 _ WH t2 w6 hr6 (by omega) (by omega)).mono ?_
            rintro e w7 ⟨rfl, rfl⟩
            rw [E2.out]
            simp only
            go_wp2
            go_roundw
            case rel => exact ⟨j + 1, t3, by omega, by go_num, by go_num, HT3.out.2, HT3.out.1, hbq6⟩
            case measure => simp [intOf]; omega
          · have HT3 : Hid (t2 = (build ss vs (j + 1)).length) := by
              show _ = _
              rw [build, part, HSK.out, if_neg (by have := HN'.out; omega), HT2.out, HT.out]; simp
            go_wp2
            go_roundw
            case rel => exact ⟨j + 1, t2, by omega, by go_num, by go_num, ht2l, HT3.out, hbq6⟩
            case measure => simp [intOf]; omega
        · have hend : ((t : Int) == (WH.length : Int)) = true := by
            have : j = n := by omega
            have h1 := HT.out
            rw [this, ← HWH.out] at h1
            simp; omega
          go_wp2
          go_ret
          exact ⟨rfl, hBq⟩
end Go.Proofs.Ytbilcokmdghioaa
