/-
  What the document's find, name, trim, low, length do, by contracts.
-/
import Derived.Test.YthgfjfljiadllaaGreatDoorHttpA
import Derived.Test.YthgfjfljiadllaaGreatDoorHttpNum
import Derived.Lib.ConvBytes
import Derived.Laws.IdiomStrings
namespace Go.Proofs.YthgfjfljiadllaaGreatDoor
open Go.RowKit Mem
set_option linter.unusedVariables false
set_option maxRecDepth 100000

def SaysZ (n : Int) (w : World) (e : Ending) (w' : World) : Prop := e = .returned (.int .i64 n) ∧ w' = w

/-- the place of a byte, as the document tells it -/
def fz (c : UInt8) (l : List UInt8) : Int := if M.fi c l < l.length then ((M.fi c l : Nat) : Int) else -1
theorem fz_some {c : UInt8} {l : List UInt8} (h : M.fi c l < l.length) : fz c l = ((M.fi c l : Nat) : Int) := if_pos h
theorem fz_none {c : UInt8} {l : List UInt8} (h : ¬ M.fi c l < l.length) : fz c l = -1 := if_neg h

set_option maxHeartbeats 1000000 in
theorem ref_find_any (s : ByteArray) (c : UInt8) (z : Int) (hz : (c.toNat : Int) = z) (w : World) (hs : s.size ≤ 9223372036854775806) : Calls Tryz.prog 16 #[.string s, .int .u8 z] w (SaysZ (fz c (bl s)) w) := by
  have hln : (bl s).length = s.size := bl_len s
  have HZ := Lib.hid hz
  clear hz
  go_enter Tryz.func16, Tryz.ntmps16
  go_wp2
  go_loopw [5] (fun p wr => ∃ i : Nat, p = .int .i64 (i : Int) ∧ i ≤ s.size ∧ Hid (i ≤ M.fi c (bl s)) ∧ wr = w) (fun p _ => s.size - (intOf p).toNat)
  case atStart => exact ⟨0, rfl, by omega, Lib.hid (by omega), rfl⟩
  case round =>
    obtain ⟨i, rfl, hi, HI, rfl⟩ := hrel
    by_cases hlt : i < s.size
    · have hil : i < (bl s).length := by rw [hln]; exact hlt
      have hget : (bl s)[i]? = some s[i] := List.getElem?_eq_getElem hil
      by_cases he : s[i] = c
      · have HF := Lib.hid (show M.fi c (bl s) = i by
          have h1 := HI.out
          rcases Nat.lt_or_ge i (M.fi c (bl s)) with h2 | h2
          · exact absurd (by rw [hget, he]) (M.fi_no h2)
          · omega)
        have hx : (((s[i]).toNat : Int) == z) = true := by rw [he, HZ.out]; simp
        clear hget he
        go_wp2
        go_ret
        exact ⟨by rw [fz_some (by rw [HF.out]; exact hil), HF.out]; rfl, rfl⟩
      · have HF := Lib.hid (show i + 1 ≤ M.fi c (bl s) by
          have h1 := HI.out
          rcases Nat.eq_or_lt_of_le h1 with h2 | h2
          · have := M.fi_at (c := c) (l := bl s) (by omega)
            rw [← h2, hget] at this
            injection this with this
            exact absurd this he
          · omega)
        have hx : (((s[i]).toNat : Int) == z) = false := by
          rw [beq_eq_false_iff_ne, ← HZ.out]
          intro h
          exact he (UInt8.toNat_inj.1 (by omega))
        clear hget he
        go_wp2
        go_roundw
        case rel => exact ⟨i + 1, by go_num, by omega, HF, trivial⟩
        case measure => simp [intOf]; omega
    · have HF := Lib.hid (show fz c (bl s) = -1 by
        have h1 := HI.out
        exact fz_none (by omega))
      go_wp2
      go_ret
      exact ⟨by rw [HF.out]; rfl, rfl⟩

set_option maxHeartbeats 2000000 in
theorem ref_name_any (s : ByteArray) (w : World) (hs : s.size ≤ 9223372036854775806) : Calls Tryz.prog 18 #[.string s] w fun e w' => e = .returned (.bool (M.isName (bl s))) ∧ w' = w := by
  have hln : (bl s).length = s.size := bl_len s
  go_enter Tryz.func18, Tryz.ntmps18
  go_wp2
  go_loopw [3] (fun p wr => ∃ i : Nat, p = .int .i64 (i : Int) ∧ i ≤ s.size ∧ Hid (PreAll M.nameB (bl s) i) ∧ wr = w) (fun p _ => s.size - (intOf p).toNat)
  case atStart => exact ⟨0, rfl, by omega, Lib.hid (PreAll.zero _ _), rfl⟩
  case round =>
    obtain ⟨pos, rfl, hi, HI, rfl⟩ := hrel
    by_cases hp : pos < s.size
    · have hpl : pos < (bl s).length := by rw [hln]; exact hp
      have hiff := nameB_iff (s[pos])
      have HN := Lib.hid (HI.out.next hpl)
      have HF := Lib.hid (all_false (f := M.nameB) hpl)
      have e : (bl s)[pos] = s[pos] := rfl
      rw [e] at HN HF
      have hx255 : (s[pos]).toNat < 256 := UInt8.toNat_lt _
      obtain ⟨x, hx⟩ : ∃ x, (s[pos]).toNat = x := ⟨_, rfl⟩
      rw [hx] at hiff hx255
      generalize M.nameB s[pos] = q at *
      clear e
      by_cases hq : q = true
      · have hc := hiff.1 hq
        have HQ := Lib.hid hq
        clear hiff hq
        by_cases h1 : 97 ≤ x <;> by_cases h2 : x ≤ 122 <;> by_cases h3 : 65 ≤ x <;> by_cases h4 : x ≤ 90 <;> by_cases h5 : 48 ≤ x <;> by_cases h6 : x ≤ 57 <;> by_cases h7 : x = 45 <;> by_cases h8 : x = 95 <;> first | (exfalso; omega) | skip
        all_goals
          clear hc
          go_wp2
          go_roundw
          case rel => exact ⟨pos + 1, by go_num, by omega, Lib.hid (HN.out HQ.out), trivial⟩
          case measure => simp [intOf]; omega
      · have hc : ¬ _ := fun h => hq (hiff.2 h)
        have HQ := Lib.hid (show M.isName (bl s) = false by unfold M.isName; rw [HF.out (by simpa using hq)]; rfl)
        clear hiff hq
        by_cases h1 : 97 ≤ x <;> by_cases h2 : x ≤ 122 <;> by_cases h3 : 65 ≤ x <;> by_cases h4 : x ≤ 90 <;> by_cases h5 : 48 ≤ x <;> by_cases h6 : x ≤ 57 <;> first | (exfalso; omega) | skip
        all_goals
          have h7 : ¬ x = 45 := by omega
          have h8 : ¬ x = 95 := by omega
          have h7b : ((x : Int) != 45) = true := by simp; omega
          have h8b : ((x : Int) != 95) = true := by simp; omega
          clear hc
          go_wp2
          all_goals first
            | (go_ret; exact ⟨by rw [HQ.out]; rfl, rfl⟩)
            | (rename_i hh; exfalso; simp at hh; omega)
            | fail
    · have HA := Lib.hid (HI.out.whole (by rw [bl_len]; omega))
      go_wp2
      go_ret
      refine ⟨?_, rfl⟩
      unfold M.isName
      rw [HA.out, Bool.true_and]
      show Ending.returned (Value.bool (decide (0 < s.size))) = _
      congr 2
      rw [Bool.eq_iff_iff, decide_eq_true_eq, decide_eq_true_eq, ← List.length_pos_iff, hln]

/-- the block g holds the bytes l, which may be written over -/
def Bs (w : World) (g : Nat) (l : List UInt8) : Prop := ∀ j, j < l.length → w.cell? ⟨g, j, none⟩ = some (.int .u8 ((l[j]?.getD 0).toNat : Int)) ∧ w.frozen? ⟨g, j, none⟩ = false
theorem Bs.set {w : World} {g i : Nat} {l : List UInt8} (h : Bs w g l) (hi : i < l.length) (b : UInt8) : Bs (w.setCell ⟨g, i, none⟩ (.int .u8 (b.toNat : Int))) g (l.set i b) := by
  intro j hj
  rw [List.length_set] at hj
  refine ⟨?_, ?_⟩
  · by_cases e : i = j
    · subst e
      rw [World.cell?_setCell_same w _ _ (h i hi).1, List.getElem?_set_self hi]
      rfl
    · rw [World.cell?_setCell_other w _ _ _ (fun q => e (by simpa using q.symm)), List.getElem?_set_ne e]
      exact (h j hj).1
  · rw [World.frozen?_setCell]
    exact (h j hj).2
theorem Bs.rd {w : World} {g c : Nat} {l : List UInt8} (h : Bs w g l) (hg : g < w.heap.size) (hc : l.length ≤ c) (hm : c ≤ maxLen) : Rd w w.heap.size (some ⟨g, 0, none⟩) l.length c l :=
  ⟨rfl, hc, hm, fun _ => ⟨g, 0, rfl, hg, fun j hj => by rw [Nat.zero_add]; exact (h j hj).1⟩⟩
/-- []byte(s) -/
theorem conv_bytes (s : ByteArray) (w : World) (hs : s.size ≤ 140737488355328) : ∃ (wb : World) (c : Nat), (convert 9 56 (.string s)).run Tryz.prog w = .ok (.slice (some ⟨w.heap.size, 0, none⟩) s.size c) wb ∧ s.size ≤ c ∧ c ≤ maxLen ∧
    Bs wb w.heap.size (bl s) ∧ Below w.heap.size w wb ∧ w.heap.size < wb.heap.size := by
  refine ⟨_, _, Lib.run_convert_string_bytes w 9 56 5 s Tryz.underlying9 Tryz.underlying56 Tryz.underlying5, ?_, ?_, ?_, ?_, ?_⟩
  · exact grownCap_ge _ _ _ _
  · exact grownCap_le_maxLen _ _ _ _ (by simp only [maxLen]; omega)
  · intro j hj
    rw [bl_len] at hj
    refine ⟨?_, ?_⟩
    · rw [Lib.bytesWorld_cell w _ s j hj]; simp [List.getD]
    · have hh := Lib.bytesWorld_at_new w 5 s
      have hz : s.size ≤ (Lib.bytesCells w 5 s).size := by unfold Lib.bytesCells; simp
      have : ¬ (Lib.bytesCells w 5 s).size ≤ j := by omega
      simp [World.frozen?, hh, this]
  · exact ⟨rfl, rfl, rfl, by rw [Lib.bytesWorld_size]; omega, fun k hk => Lib.bytesWorld_at_old w _ s k hk⟩
  · rw [Lib.bytesWorld_size]; omega
/-- the first i letters turned -/
def partly (f : UInt8 → UInt8) (l : List UInt8) (i : Nat) : List UInt8 := (l.take i).map f ++ l.drop i
theorem partly_len (f : UInt8 → UInt8) (l : List UInt8) (i : Nat) : (partly f l i).length = l.length := by unfold partly; simp; omega
theorem partly_at {f : UInt8 → UInt8} {l : List UInt8} {i : Nat} (h : i < l.length) : (partly f l i)[i]?.getD 0 = l[i] := by
  unfold partly
  rw [List.getElem?_append_right (by simp; omega)]
  simp [h, show i - min i l.length = 0 by omega]
theorem partly_next {f : UInt8 → UInt8} {l : List UInt8} {i : Nat} (h : i < l.length) : partly f l (i + 1) = (partly f l i).set i (f l[i]) := by
  unfold partly
  have e1 : l.drop i = l[i] :: l.drop (i + 1) := List.drop_eq_getElem_cons h
  have e2 : l.take (i + 1) = l.take i ++ [l[i]] := by rw [List.take_succ_eq_append_getElem h]
  have e3 : ((l.take i).map f).length = i := by simp; omega
  rw [e1, e2, List.map_append, List.set_append_right _ _ (by omega), e3, Nat.sub_self]
  simp only [List.append_assoc, List.map_cons, List.map_nil, List.cons_append, List.nil_append, List.set_cons_zero]
theorem partly_all {f : UInt8 → UInt8} {l : List UInt8} {i : Nat} (h : l.length ≤ i) : partly f l i = l.map f := by
  unfold partly
  rw [List.take_of_length_le h, List.drop_eq_nil_of_le h, List.append_nil]
theorem partly_zero (f : UInt8 → UInt8) (l : List UInt8) : partly f l 0 = l := by unfold partly; simp
theorem set_same {l : List UInt8} {i : Nat} (h : i < l.length) (b : UInt8) (hb : l[i]?.getD 0 = b) : l.set i b = l := by
  subst hb
  rw [List.getElem?_eq_getElem h]
  simp

set_option maxHeartbeats 1000000 in
theorem ref_low_any (s : ByteArray) (w : World) (hs : s.size ≤ 140737488355328) : Calls Tryz.prog 20 #[.string s] w (SaysT ((bl s).map M.lowr) w) := by
  obtain ⟨wb, c, hrun, hsc, hcm, hbs, hbel, hlt0⟩ := conv_bytes s w hs
  have hcm' : c ≤ 9223372036854775807 := by simpa only [maxLen] using hcm
  have HBS := Lib.hid (show Bs wb w.heap.size (partly M.lowr (bl s) 0) by rw [partly_zero]; exact hbs)
  have HBEL := Lib.hid hbel
  have hln : (bl s).length = s.size := bl_len s
  clear hbs hbel hcm
  go_enter Tryz.func20, Tryz.ntmps20
  go_wp2
  go_loopw [4] (fun p wr => ∃ i : Nat, p = .int .i64 (i : Int) ∧ i ≤ s.size ∧ Hid (Bs wr w.heap.size (partly M.lowr (bl s) i)) ∧ Hid (Below w.heap.size w wr) ∧ w.heap.size < wr.heap.size) (fun p _ => s.size - (intOf p).toNat)
  case atStart => exact ⟨0, rfl, by omega, HBS, HBEL, hlt0⟩
  case round =>
    obtain ⟨i, rfl, hi, HI, HB, hsz⟩ := hrel
    rename World => wr
    by_cases hlt : i < s.size
    · have hil : i < (bl s).length := by rw [hln]; exact hlt
      have hip : i < (partly M.lowr (bl s) i).length := by rw [partly_len]; exact hil
      obtain ⟨hcell, hfz⟩ := HI.out i hip
      rw [partly_at hil] at hcell
      obtain ⟨b, hb⟩ : ∃ b, (bl s)[i] = b := ⟨_, rfl⟩
      rw [hb] at hcell
      obtain ⟨x, hx⟩ : ∃ x, b.toNat = x := ⟨_, rfl⟩
      rw [hx] at hcell
      have hx256 : x < 256 := by rw [← hx]; exact UInt8.toNat_lt _
      have HBB := Lib.hid hb; have HX := Lib.hid hx
      have HNX := Lib.hid (partly_next (f := M.lowr) hil)
      have HPA := Lib.hid (partly_at (f := M.lowr) hil)
      clear hb hx
      by_cases hup : 65 ≤ x ∧ x ≤ 90
      · obtain ⟨h1, h2⟩ := hup
        have HLOW := Lib.hid (show ((M.lowr b).toNat : Int) = (x : Int) + 32 by
          have e : M.lowr b = b + 32 := by unfold M.lowr; rw [if_pos (by rw [HX.out]; omega)]
          rw [e, UInt8.toNat_add, HX.out]
          show (((x + 32) % 256 : Nat) : Int) = _
          omega)
        go_wp2
        go_roundw
        case rel =>
          refine ⟨i + 1, by go_num, by omega, Lib.hid ?_, Lib.hid ?_, ?_⟩
          · have := HI.out.set hip (M.lowr b)
            rw [HNX.out, HBB.out]
            rw [HLOW.out] at this
            exact this
          · exact HB.out.setCell (Nat.le_refl _) _
          · simpa using hsz
        case measure => simp [intOf]; omega
      · have HLOW := Lib.hid (show M.lowr b = b by unfold M.lowr; rw [if_neg (by rw [HX.out]; omega)])
        by_cases h1 : 65 ≤ x <;> by_cases h2 : x ≤ 90 <;> first | (exfalso; omega) | skip
        all_goals
          go_wp2
          go_roundw
          case rel =>
            refine ⟨i + 1, by go_num, by omega, Lib.hid ?_, HB, hsz⟩
            rw [HNX.out, HBB.out, HLOW.out, set_same hip b (by rw [HPA.out, HBB.out])]
            exact HI.out
          case measure => simp [intOf]; omega
    · have hrd := HI.out.rd (c := c) hsz (by rw [partly_len, hln]; exact hsc) (by simpa only [maxLen] using hcm')
      rw [partly_all (by rw [hln]; omega)] at hrd
      have hcv := run_str (P := Tryz.prog) wr wr.heap.size 56 9 5 Tryz.underlying56 Tryz.underlying5 Tryz.underlying9 _ _ _ _ hrd
      rw [List.length_map, hln] at hcv
      go_wp2
      go_ret
      exact ⟨rfl, HB.out⟩
end Go.Proofs.YthgfjfljiadllaaGreatDoor
