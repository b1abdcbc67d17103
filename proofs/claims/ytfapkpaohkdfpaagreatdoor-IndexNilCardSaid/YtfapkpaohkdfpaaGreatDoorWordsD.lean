/-
  A row of words in memory ('WRow'), and what words.Words does, by a contract.
-/
import Derived.Test.YtfapkpaohkdfpaaGreatDoorWordsC
import Derived.Deep.AppendLies
import Derived.Great.BuildSlice
namespace Go.Proofs.YtfapkpaohkdfpaaGreatDoor
open Go.RowKit Mem
set_option linter.unusedVariables false
set_option maxRecDepth 100000

theorem Tryz.infoW : (Tryz.prog.info? 145).map (fun i => (i.zero, i.size, i.bytes)) = some (some (.agg #[.string ⟨#[]⟩, .int .i64 0, .int .i64 0]), 3, 32) := by kernel_rfl
theorem Tryz.infoV : (Tryz.prog.info? 121).map (fun i => (i.zero, i.size, i.bytes)) = some (some (.agg #[.string ⟨#[]⟩, .int .i64 0, .int .i64 0]), 3, 32) := by kernel_rfl
theorem info_of {P : Program} {e : TypeId} {z : Value} {s b : Nat} (h : (P.info? e).map (fun i => (i.zero, i.size, i.bytes)) = some (some z, s, b)) : ∃ i, P.info? e = some i ∧ i.zero = some z ∧ i.size = s ∧ i.bytes = b := by
  cases hi : P.info? e with
  | none => rw [hi] at h; cases h
  | some i =>
    rw [hi] at h
    simp only [Option.map_some, Option.some.injEq, Prod.mk.injEq] at h
    exact ⟨i, rfl, h.1, h.2.1, h.2.2⟩

def wcell (x : M.W) : List Value := [.string ⟨x.text.toArray⟩, .int .i64 (x.a : Int), .int .i64 (x.z : Int)]
def wcells (ws : List M.W) : List Value := ws.flatMap wcell
theorem wcells_len (l : List M.W) : (wcells l).length = l.length * 3 := by
  induction l with
  | nil => rfl
  | cons a r ih => show (wcell a ++ wcells r).length = _; rw [List.length_append, ih]; simp [wcell]; omega
theorem wcells_app (l r : List M.W) : wcells (l ++ r) = wcells l ++ wcells r := by simp [wcells]
theorem wcells_at {l : List M.W} {i : Nat} (hi : i < l.length) : (wcells l)[i * 3]? = some (.string ⟨l[i].text.toArray⟩) ∧ (wcells l)[i * 3 + 1]? = some (.int .i64 (l[i].a : Int)) ∧ (wcells l)[i * 3 + 2]? = some (.int .i64 (l[i].z : Int)) := by
  induction l generalizing i with
  | nil => simp at hi
  | cons a r ih =>
    have e : wcells (a :: r) = .string ⟨a.text.toArray⟩ :: .int .i64 (a.a : Int) :: .int .i64 (a.z : Int) :: wcells r := rfl
    rw [e]
    cases i with
    | zero => simp
    | succ j =>
      have := ih (i := j) (by simpa using hi)
      rw [show (j + 1) * 3 = j * 3 + 3 by omega]
      simpa using this

/-- the slice v holds the words ws, in memory of the call's own -/
def WRow (w : World) (e : TypeId) (base : Nat) (v : Value) (ws : List M.W) : Prop := w.ownsRow base e 3 v ws.length (wcells ws)
theorem WRow.below {w w' : World} {e : TypeId} {base : Nat} {v : Value} {ws : List M.W} (h : WRow w e base v ws) (hb : Below w.heap.size w w') : WRow w' e base v ws := by
  refine World.ownsRow.kept (row := none) h ⟨hb.os, hb.tape, hb.output, hb.size, fun k hk _ => hb.block k hk⟩ ?_
  cases hv : v.ownBlock <;> simp
theorem WRow.less {w : World} {e : TypeId} {base b' : Nat} {v : Value} {ws : List M.W} (h : WRow w e base v ws) (hb : b' ≤ base) : WRow w e b' v ws := by
  refine ⟨h.1, ?_⟩
  rcases h.2 with h2 | ⟨g, cap, cur, hv, hg, r⟩
  · exact .inl h2
  · exact .inr ⟨g, cap, cur, hv, by omega, r⟩
theorem WRow.form {w : World} {e : TypeId} {base : Nat} {v : Value} {ws : List M.W} (h : WRow w e base v ws) : ∃ A c, v = .slice A ws.length c ∧ ws.length ≤ c ∧ c ≤ 9223372036854775807 := by
  rcases h.2 with ⟨rfl, h0⟩ | ⟨g, cap, cur, rfl, _, _, h1, h2, _⟩
  · exact ⟨none, 0, by rw [h0], by omega, by omega⟩
  · exact ⟨_, cap, rfl, h1, by simpa only [maxLen] using h2⟩
/-- what stands at a place -/
theorem WRow.at_ {w : World} {e : TypeId} {base n i c : Nat} {A : Option Addr} {ws : List M.W} (h : WRow w e base (.slice A n c) ws) (hi : i < ws.length) : ∃ g, A = some ⟨g, 0, none⟩ ∧ g < w.heap.size ∧
    w.cell? ⟨g, i * 3, none⟩ = some (.string ⟨ws[i].text.toArray⟩) ∧ w.cell? ⟨g, i * 3 + 1, none⟩ = some (.int .i64 (ws[i].a : Int)) ∧ w.cell? ⟨g, i * 3 + 2, none⟩ = some (.int .i64 (ws[i].z : Int)) := by
  have hx := h
  rcases h.2 with ⟨h1, h0⟩ | ⟨g, cap, cur, h1, hg, hh, hnc, hcm, _⟩
  · omega
  · injection h1 with e1 e2 e3
    subst e1 e2 e3
    obtain ⟨a1, a2, a3⟩ := wcells_at hi
    refine ⟨g, rfl, (Array.getElem?_eq_some_iff.1 hh).1, ?_, ?_, ?_⟩
    · rw [World.ownsRow.cellAt hx (i * 3) (by rw [← wcells_len]; exact (List.getElem?_eq_some_iff.1 a1).1), a1]
    · rw [World.ownsRow.cellAt hx (i * 3 + 1) (by rw [← wcells_len]; exact (List.getElem?_eq_some_iff.1 a2).1), a2]
    · rw [World.ownsRow.cellAt hx (i * 3 + 2) (by rw [← wcells_len]; exact (List.getElem?_eq_some_iff.1 a3).1), a3]

def SaysW (e : TypeId) (l : List M.W) (w : World) (x : Ending) (w' : World) : Prop := ∃ v, x = .returned v ∧ WRow w' e w.heap.size v l ∧ Below w.heap.size w w'

def WInv (e : TypeId) (l : List UInt8) (w : World) (a : Nat) (v : Value) (ws : List M.W) (wr : World) : Prop := WRow wr e w.heap.size v ws ∧ Below w.heap.size w wr ∧ ws ++ M.wordsAt a (l.drop a) = M.words l
theorem WInv.next {e : TypeId} {l : List UInt8} {w wr w9 : World} {a g cap m c : Nat} {A : Option Addr} {ws : List M.W} {o : Obj} {x : M.W} {k : Nat} (h : WInv e l w a (.slice A m c) ws wr)
    (hx : M.wordsAt a (l.drop a) = x :: M.wordsAt k (l.drop k)) (hm : ws.length = m)
    (hrow : w9.ownsRow w.heap.size e 3 (.slice (some ⟨g, 0, none⟩) (m + 1) cap) (m + 1) (wcells ws ++ wcell x)) (hg : (wr.alloc o).grownBy w9 (Value.ownBlock (.slice A m c))) :
    WInv e l w k (.slice (some ⟨g, 0, none⟩) (m + 1) cap) (ws ++ [x]) w9 := by
  obtain ⟨h1, h2, h3⟩ := h
  refine ⟨?_, (h2.alloc h2.size _).grown hg (by have := h2.size; simp; omega) (fun k' hk' => (World.ownsRow.lt h1 k' hk').1), ?_⟩
  · unfold WRow
    rw [List.length_append, hm, wcells_app]
    simpa [wcells] using hrow
  · rw [← h3, hx]; simp

set_option maxHeartbeats 1000000 in
theorem words_any (s : ByteArray) (w : World) (hs : s.size ≤ 1073741824) (hT : Tabs w) : Calls Tryz.prog 100 #[.string s] w (SaysW 145 (M.words (bl s)) w) := by
  obtain ⟨i0, hi, hz0, hz1, hz2⟩ := info_of Tryz.infoW
  have HI := Lib.hid hi; have HZ0 := Lib.hid hz0; have HZ1 := Lib.hid hz1; have HZ2 := Lib.hid hz2
  clear hi hz0 hz1 hz2
  have HT := Lib.hid hT
  clear hT
  have hln : (bl s).length = s.size := bl_len s
  have H0 := Lib.hid (show WInv 145 (bl s) w 0 (.slice none 0 0) [] w from ⟨World.ownsRow_nil _ _ _ _, Below.refl _ _, rfl⟩)
  go_enter Tryz.func100, Tryz.ntmps100
  go_wp2
  go_loopw [3, 4] (fun o p wr => ∃ (a m c : Nat) (A : Option Addr) (ws : List M.W), p = .int .i64 (a : Int) ∧ o = .slice A m c ∧ a ≤ s.size ∧ m ≤ a ∧ Hid (ws.length = m) ∧ Hid (WInv 145 (bl s) w a (.slice A m c) ws wr)) (fun _ p _ => s.size - (intOf p).toNat)
  case atStart => exact ⟨0, 0, 0, none, [], rfl, rfl, Nat.zero_le _, Nat.le_refl _, Lib.hid rfl, H0⟩
  case round =>
    obtain ⟨a, m, c, A, ws, rfl, rfl, ha, hma, HM, HV⟩ := hrel
    rename World => wr
    obtain ⟨hrow, hb, heq⟩ := HV.out
    have HB := Lib.hid hb; have HROW := Lib.hid hrow; have HEQ := Lib.hid heq
    clear hrow heq
    have hbs : w.heap.size ≤ wr.heap.size := hb.size
    clear hb
    by_cases hlt : a < s.size
    · have hwe := wordEnd_any s a wr ha (by omega) (HT.out.below HB.out)
      have hrl := M.run_le 32 ((bl s).drop a)
      rw [List.length_drop, hln] at hrl
      have hne : (bl s).drop a ≠ [] := by intro e; have := congrArg List.length e; rw [List.length_drop, hln] at this; simp at this; omega
      have HSK := Lib.hid (M.wordsAt_skip (a := a) hne)
      have HWD := Lib.hid (M.wordsAt_word (a := a) (l := (bl s).drop a))
      have hsm := small_any (s.extract a (a + M.run 32 ((bl s).drop a))) 
      rw [bl_cut] at hsm
      have HTX := Lib.hid (show (((bl s).take (a + M.run 32 ((bl s).drop a))).drop a) = ((bl s).drop a).take (M.run 32 ((bl s).drop a)) by rw [List.drop_take]; congr 1; omega)
      generalize M.run 32 ((bl s).drop a) = k at *
      by_cases hk : k = 0
      · have HK := Lib.hid hk
        subst hk
        have HWE := Lib.hid hwe
        clear hwe hsm hrl hne
        go_wp2_with fail
        refine HWE.out.mono ?_
        rintro e w1 ⟨rfl, hb1⟩
        have HV1 := Lib.hid (show WInv 145 (bl s) w (a + 1) (.slice A m c) ws w1 from ⟨HROW.out.below hb1, HB.out.trans (hb1.mono HB.out.size), by rw [← HEQ.out, HSK.out HK.out, List.drop_drop]⟩)
        clear hb1
        go_wp2
        go_roundw
        case rel => exact ⟨a + 1, m, c, A, ws, by go_num, rfl, by omega, by omega, HM, HV1⟩
        case measure => simp [intOf]; omega
      · have hq : (((a + k : Nat) : Int) == (a : Int)) = false := by simp; omega
        have HWE := Lib.hid hwe
        have HSM := Lib.hid hsm
        have HKK := Lib.hid hk
        have hk1 : 1 ≤ k := by omega
        clear hwe hsm hne hk
        go_wp2_with fail
        refine HWE.out.mono ?_
        rintro e w1 ⟨rfl, hb1⟩
        have HB1 := Lib.hid hb1
        clear hb1
        go_wp2_with fail
        refine (HSM.out w1 (by simp; omega)).mono ?_
        rintro e w2 ⟨rfl, hb2⟩
        have HB2 := Lib.hid (HB1.out.trans (hb2.mono HB1.out.size))
        have HW2 := Lib.hid (HROW.out.below HB2.out)
        have HRM := Lib.hid (show w2.ownsRow w.heap.size 145 3 (.slice A m c) m (wcells ws) by have := HW2.out; unfold WRow at this; rwa [HM.out] at this)
        have hw2 : wr.heap.size ≤ w2.heap.size := HB2.out.size
        have HV2 := Lib.hid (show WInv 145 (bl s) w a (.slice A m c) ws w2 from ⟨HW2.out, HB.out.trans (HB2.out.mono HB.out.size), HEQ.out⟩)
        clear hb2
        rw [HTX.out]
        have HX := Lib.hid (HWD.out (fun e => by have := HKK.out; omega))
        generalize hx : (((bl s).drop a).take k).map M.low = x at *
        go_wp2_with (at_builtin; go_must (refine wpList_append_lies _ rfl (.tmp 18) (.tmp 27) _ rfl w.heap.size 145 i0 _ 3 32 Tryz.underlying143 HI.out HZ0.out HZ1.out HZ2.out rfl (by omega) (.slice A m c) m (wcells ws) rfl (HRM.out.alloc _) ⟨w2.heap.size, 0, none⟩ 1 1 [.string ⟨x.toArray⟩, .int .i64 (a : Int), .int .i64 ((a + k : Nat) : Int)] rfl rfl (World.news_of_block (cs := #[.string ⟨x.toArray⟩, .int .i64 (a : Int), .int .i64 ((a + k : Nat) : Int)]) (t := 145) (fr := (0, 0)) (heap_alloc_new w2 _)) (by simp [Value.oneCell']) (by omega) (by simp only [maxLen]; omega) (by omega) (by simp; omega) (w2.heap.size + 1) (by simp) ?_))
        intro g9 cap9 w9 hown9 hgrow9 hat9 hlt9
        have HV9 := Lib.hid (HV2.out.next (x := ⟨x, a, a + k⟩) (k := a + k) (by rw [HX.out, List.drop_drop]) HM.out hown9 hgrow9)
        have HM9 := Lib.hid (show (ws ++ [(⟨x, a, a + k⟩ : M.W)]).length = m + 1 by rw [List.length_append, HM.out]; rfl)
        clear hown9 hgrow9 hat9
        go_wp2
        go_roundw
        case rel => exact ⟨a + k, m + 1, cap9, _, _, rfl, rfl, by omega, by omega, HM9, HV9⟩
        case measure => simp [intOf]; omega
    · have HE := Lib.hid (show ws = M.words (bl s) by rw [← HEQ.out, List.drop_eq_nil_of_le (by omega), M.wordsAt_nil, List.append_nil])
      go_wp2
      go_ret
      exact ⟨_, rfl, by rw [← HE.out]; exact HROW.out, HB.out⟩
end Go.Proofs.YtfapkpaohkdfpaaGreatDoor
