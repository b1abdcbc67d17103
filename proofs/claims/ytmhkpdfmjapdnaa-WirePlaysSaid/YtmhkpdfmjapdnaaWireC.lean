/-
  What New, Len, has, At and Copy do, by contracts.
-/
import Derived.Test.YtmhkpdfmjapdnaaWireB
namespace Go.Proofs.Ytmhkpdfmjapdnaa
open Go.RowKit Mem
set_option linter.unusedVariables false

def SaysV (v : Value) (w : World) (e : Ending) (w' : World) : Prop := e = .returned v ∧ w' = w

set_option maxRecDepth 100000 in
set_option maxHeartbeats 400000 in
theorem new_any (w : World) : Calls Try.prog 8 #[] w (fun e w' => ∃ D F, e = .returned (.pointer (some ⟨D, 0, none⟩)) ∧ NetAt w' F D [] ∧ (∀ k, F k → w.heap.size ≤ k) ∧ Below w.heap.size w w') := by
  go_enter Try.func8, Try.ntmps8
  go_wp2
  go_ret
  refine ⟨w.heap.size, (· = w.heap.size), rfl, ⟨.slice none 0 0, [], heap_alloc_new w _, rfl, World.ownsRow_nil _ _ _ _, by simp [Value.ownBlock], rfl, List.Pairwise.nil, by simp, by simp⟩, fun k hk => by omega, (Below.refl _ w).alloc (Nat.le_refl _) _⟩

set_option maxRecDepth 100000 in
set_option maxHeartbeats 400000 in
theorem len_nil (w : World) : Calls Try.prog 15 #[.pointer none] w (SaysV (.int .i64 0) w) := by
  go_enter Try.func15, Try.ntmps15
  go_wp2
  go_ret
  exact ⟨rfl, rfl⟩

theorem NetAt.form {w : World} {F : Nat → Prop} {D : Nat} {ps : List Pk} (h : NetAt w F D ps) : ∃ A c, w.cell? ⟨D, 0, none⟩ = some (.slice A ps.length c) ∧ ps.length ≤ c ∧ c ≤ 9223372036854775807 := by
  obtain ⟨v, ss, h1, h2, h3, h4, h5, h6, h7, h8⟩ := h
  have hl : ss.length = ps.length := by rw [← h5]; simp
  rcases h3.2 with ⟨rfl, h0⟩ | ⟨g, cap, cur, rfl, hg, hh, hnc, hcm, _⟩
  · exact ⟨none, 0, by rw [h1.c0, ← hl, h0], by omega, by omega⟩
  · exact ⟨_, cap, by rw [h1.c0, ← hl], by omega, by simpa only [maxLen] using hcm⟩

set_option maxRecDepth 100000 in
set_option maxHeartbeats 400000 in
theorem len_any (D : Nat) (F : Nat → Prop) (ps : List Pk) (w : World) (h : NetAt w F D ps) : Calls Try.prog 15 #[.pointer (some ⟨D, 0, none⟩)] w (SaysV (.int .i64 ps.length) w) := by
  obtain ⟨A, c, c0, hc, hcm⟩ := h.form
  go_enter Try.func15, Try.ntmps15
  go_wp2
  go_ret
  exact ⟨rfl, rfl⟩

set_option maxRecDepth 100000 in
set_option maxHeartbeats 400000 in
theorem has_nil (i : Int) (w : World) (hi : -9223372036854775808 ≤ i) (hi2 : i ≤ 9223372036854775807) : Calls Try.prog 17 #[.pointer none, .int .i64 i] w (SaysV (.bool false) w) := by
  by_cases h0 : 0 ≤ i
  · have hd : decide (i < 0) = false := by simpa using h0
    go_enter Try.func17, Try.ntmps17
    go_wp2_with fail
    refine (len_nil w).mono ?_
    rintro e w1 ⟨rfl, rfl⟩
    go_wp2
    go_ret
    exact ⟨rfl, rfl⟩
  · have hd : decide (0 ≤ i) = false := by simpa using h0
    go_enter Try.func17, Try.ntmps17
    go_wp2
    go_ret
    exact ⟨rfl, rfl⟩

/-- is there a packet of that number? -/
def there (i : Int) (n : Nat) : Bool := decide (0 ≤ i) && decide (i < (n : Int))

set_option maxRecDepth 100000 in
set_option maxHeartbeats 400000 in
theorem has_any (D : Nat) (F : Nat → Prop) (ps : List Pk) (i : Int) (w : World) (h : NetAt w F D ps) (hi : -9223372036854775808 ≤ i) (hi2 : i ≤ 9223372036854775807) : Calls Try.prog 17 #[.pointer (some ⟨D, 0, none⟩), .int .i64 i] w (SaysV (.bool (there i ps.length)) w) := by
  have HT := Lib.hid (show there i ps.length = (decide (0 ≤ i) && decide (i < (ps.length : Int))) from rfl)
  have HL := Lib.hid (len_any D F ps w h)
  clear h
  generalize ps.length = m at *
  by_cases h0 : 0 ≤ i
  · by_cases h1 : i < (m : Int)
    · go_enter Try.func17, Try.ntmps17
      go_wp2_with fail
      refine HL.out.mono ?_
      rintro e w1 ⟨rfl, rfl⟩
      go_wp2
      go_ret
      exact ⟨by rw [HT.out]; simp [h0, h1], rfl⟩
    · have hd : decide (i < (m : Int)) = false := by simpa using h1
      go_enter Try.func17, Try.ntmps17
      go_wp2_with fail
      refine HL.out.mono ?_
      rintro e w1 ⟨rfl, rfl⟩
      go_wp2
      go_ret
      exact ⟨by rw [HT.out]; simp [h0, h1], rfl⟩
  · have hd : decide (0 ≤ i) = false := by simpa using h0
    go_enter Try.func17, Try.ntmps17
    go_wp2
    go_ret
    exact ⟨by rw [HT.out, hd]; rfl, rfl⟩

/-- there is none -/
def NoPk (w : World) (e : Ending) (w' : World) : Prop := e = .returned (.tuple #[.agg #[.int .i64 0, .int .i64 0, .slice none 0 0], .int .i64 8]) ∧ Below w.heap.size w w'

set_option maxRecDepth 100000 in
set_option maxHeartbeats 400000 in
theorem at_no (d : Option Addr) (i : Int) (w : World) (hh : Calls Try.prog 17 #[.pointer d, .int .i64 i] (w.alloc (.cells #[.int .i64 0, .int .i64 0, .slice none 0 0] 29)) (SaysV (.bool false) (w.alloc (.cells #[.int .i64 0, .int .i64 0, .slice none 0 0] 29)))) :
    Calls Try.prog 10 #[.pointer d, .int .i64 i] w (NoPk w) := by
  have HH := Lib.hid hh
  clear hh
  go_enter Try.func10, Try.ntmps10
  go_wp2_with fail
  refine HH.out.mono ?_
  rintro e w1 ⟨rfl, rfl⟩
  go_wp2
  exact bodyPost_ret (v := .tuple #[.agg #[.int .i64 0, .int .i64 0, .slice none 0 0], .int .i64 8]) (by simp [results, Try.results10, go_sem]) rfl ⟨rfl, (Below.refl _ w).alloc (Nat.le_refl _) _⟩

set_option maxRecDepth 100000 in
set_option maxHeartbeats 400000 in
theorem take_no (d : Option Addr) (i : Int) (w : World) (hh : Calls Try.prog 17 #[.pointer d, .int .i64 i] (w.alloc (.cells #[.int .i64 0, .int .i64 0, .slice none 0 0] 29)) (SaysV (.bool false) (w.alloc (.cells #[.int .i64 0, .int .i64 0, .slice none 0 0] 29)))) :
    Calls Try.prog 11 #[.pointer d, .int .i64 i] w (NoPk w) := by
  have HH := Lib.hid hh
  clear hh
  go_enter Try.func11, Try.ntmps11
  go_wp2_with fail
  refine HH.out.mono ?_
  rintro e w1 ⟨rfl, rfl⟩
  go_wp2
  exact bodyPost_ret (v := .tuple #[.agg #[.int .i64 0, .int .i64 0, .slice none 0 0], .int .i64 8]) (by simp [results, Try.results11, go_sem]) rfl ⟨rfl, (Below.refl _ w).alloc (Nat.le_refl _) _⟩

set_option maxRecDepth 100000 in
set_option maxHeartbeats 400000 in
theorem copy_no (d : Option Addr) (i : Int) (w : World) (hh : Calls Try.prog 17 #[.pointer d, .int .i64 i] w (SaysV (.bool false) w)) :
    Calls Try.prog 14 #[.pointer d, .int .i64 i] w (SaysV (.int .i64 8) w) := by
  have HH := Lib.hid hh
  clear hh
  go_enter Try.func14, Try.ntmps14
  go_wp2_with fail
  refine HH.out.mono ?_
  rintro e w1 ⟨rfl, rfl⟩
  go_wp2
  go_ret
  exact ⟨rfl, rfl⟩

/-- what lies at a place -/
theorem NetAt.look {w : World} {F : Nat → Prop} {D i : Nat} {ps : List Pk} (h : NetAt w F D ps) (hi : i < ps.length) : ∃ gb cap A c, w.cell? ⟨D, 0, none⟩ = some (.slice (some ⟨gb, 0, none⟩) ps.length cap) ∧ ps.length ≤ cap ∧ cap ≤ 9223372036854775807 ∧ gb < w.heap.size ∧ D < w.heap.size ∧
    w.cell? ⟨gb, i * 3, none⟩ = some (.int .i64 ps[i].src) ∧ w.cell? ⟨gb, i * 3 + 1, none⟩ = some (.int .i64 ps[i].dst) ∧ w.cell? ⟨gb, i * 3 + 2, none⟩ = some (.slice A ps[i].data.length c) ∧ Rd w w.heap.size A ps[i].data.length c ps[i].data ∧ ps[i].data.length ≤ 140737488355328 := by
  obtain ⟨v, ss, h1, h2, h3, h4, h5, h6, h7, h8⟩ := h
  have hl : ss.length = ps.length := by rw [← h5]; simp
  have hrow := h3
  rcases h3.2 with ⟨rfl, h0⟩ | ⟨g, cap, cur, rfl, hg, hh, hnc, hcm, _⟩
  · omega
  · have his : i < ss.length := by omega
    have hpi : ps[i] = ss[i].p := by subst h5; simp
    obtain ⟨a1, a2, a3⟩ := h7 ss[i] (List.getElem_mem his)
    obtain ⟨A, c, hv, hrd⟩ := a1.open_
    obtain ⟨k1, k2, k3⟩ := cellsOf_at his
    have hat : ∀ j, j < 3 → w.cell? ⟨g, i * 3 + j, none⟩ = (cellsOf ss)[i * 3 + j]? := fun j hj => World.ownsRow.cellAt hrow (i * 3 + j) (by omega)
    refine ⟨g, cap, A, c, by rw [h1.c0, ← hl], by omega, by simpa only [maxLen] using hcm, (Array.getElem?_eq_some_iff.1 hh).1, heapLt h1, ?_, ?_, ?_, ?_, ?_⟩
    · rw [hpi]; exact (hat 0 (by omega)).trans k1
    · rw [hpi]; exact (hat 1 (by omega)).trans k2
    · rw [hpi, ← hv]; exact (hat 2 (by omega)).trans k3
    · rw [hpi]; exact hrd
    · rw [hpi]; exact a3

/-- a struct of three cells, written anew -/
theorem set3 {w : World} {B : Nat} {a b c : Value} {t : TypeId} (x y z : Value) (h : w.heap[B]? = some (.cells #[a, b, c] t (0, 0))) :
    (w.setCell ⟨B, 0, none⟩ x).cell? ⟨B, 0, none⟩ = some x ∧ ((w.setCell ⟨B, 0, none⟩ x).setCell ⟨B, 1, none⟩ y).cell? ⟨B, 1, none⟩ = some y ∧ (((w.setCell ⟨B, 0, none⟩ x).setCell ⟨B, 1, none⟩ y).setCell ⟨B, 2, none⟩ z).cell? ⟨B, 2, none⟩ = some z ∧
    (((w.setCell ⟨B, 0, none⟩ x).setCell ⟨B, 1, none⟩ y).setCell ⟨B, 2, none⟩ z).heap[B]? = some (.cells #[x, y, z] t (0, 0)) := by
  have h1 := heapSet 0 x h
  have h2 := heapSet 1 y h1
  have h3 := heapSet 2 z h2
  exact ⟨(cellAt 0 h1).trans rfl, (cellAt 1 h2).trans rfl, (cellAt 2 h3).trans rfl, h3.trans rfl⟩

theorem there_nat {i n : Nat} (h : i < n) : there (i : Int) n = true := by unfold there; simp; omega

def AtPk (p : Pk) (w : World) (e : Ending) (w' : World) : Prop := ∃ g, e = .returned (.tuple #[pkVal p g, .int .i64 0]) ∧ Own w' w.heap.size 5 (slOf g p.data) p.data ∧ Below w.heap.size w w'

set_option maxRecDepth 100000 in
set_option maxHeartbeats 400000 in
theorem at_any (D i : Nat) (F : Nat → Prop) (ps : List Pk) (w : World) (h : NetAt w F D ps) (hi : i < ps.length) (hps : ps.length ≤ 1099511627776) : Calls Try.prog 10 #[.pointer (some ⟨D, 0, none⟩), .int .i64 i] w (AtPk ps[i] w) := by
  obtain ⟨gb, cap, A, c, c0, hcap, hcapm, hgb, hD, k0, k1, k2, hrd, hlen⟩ := h.look hi
  have HH := Lib.hid (has_any D F ps i _ (h.alloc (.cells #[.int .i64 0, .int .i64 0, .slice none 0 0] 29)) (by omega) (by omega))
  have HT := Lib.hid (there_nat hi)
  have HF := Lib.hid (fresh_any ps[i] A ps[i].data.length c w.heap.size (w.alloc (.cells #[.int .i64 0, .int .i64 0, .slice none 0 0] 29)) (hrd.alloc (Nat.le_refl _) _) (by simp) hlen)
  clear h
  generalize hpp : ps[i] = p at *
  clear hpp
  generalize hnn : ps.length = n at *
  clear hnn
  go_enter Try.func10, Try.ntmps10
  go_wp2_with fail
  refine HH.out.mono ?_
  rintro e w1 ⟨rfl, rfl⟩
  rw [HT.out]
  go_wp2_with fail
  refine HF.out.mono ?_
  rintro e w1 ⟨g, rfl, hown, hb, hgle⟩
  rw [show pkVal p g = .agg #[.int .i64 p.src, .int .i64 p.dst, .slice (some ⟨g, 0, none⟩) p.data.length p.data.length] from rfl]
  have q0 := (hb.cell (p := ⟨w.heap.size, 0, none⟩) (by simp)).trans ((cellAt 0 (heapNew (w := w) _)).trans rfl)
  have q1 := (hb.cell (p := ⟨w.heap.size, 1, none⟩) (by simp)).trans ((cellAt 1 (heapNew (w := w) _)).trans rfl)
  have q2 := (hb.cell (p := ⟨w.heap.size, 2, none⟩) (by simp)).trans ((cellAt 2 (heapNew (w := w) _)).trans rfl)
  have f0 := (hb.frozen (p := ⟨w.heap.size, 0, none⟩) (by simp)).trans (freeAt 0 (heapNew (w := w) _))
  have f1 := (hb.frozen (p := ⟨w.heap.size, 1, none⟩) (by simp)).trans (freeAt 1 (heapNew (w := w) _))
  have f2 := (hb.frozen (p := ⟨w.heap.size, 2, none⟩) (by simp)).trans (freeAt 2 (heapNew (w := w) _))
  obtain ⟨u0, u1, u2, -⟩ := set3 (.int .i64 p.src) (.int .i64 p.dst) (.slice (some ⟨g, 0, none⟩) p.data.length p.data.length) ((hb.block w.heap.size (by simp)).trans (heapNew (w := w) _))
  have HO := Lib.hid hown; have HB := Lib.hid hb; have HG := Lib.hid hgle
  have U0 := Lib.hid u0; have U1 := Lib.hid u1; have U2 := Lib.hid u2
  clear hown hb hgle u0 u1 u2
  go_wp2
  refine bodyPost_ret (v := .tuple #[.agg #[.int .i64 p.src, .int .i64 p.dst, .slice (some ⟨g, 0, none⟩) p.data.length p.data.length], .int .i64 0]) (by simp [results, Try.results10, go_sem, U0.out, U1.out, U2.out]) rfl ⟨g, rfl, ?_, ?_⟩
  · have hgle := HG.out
    have h0 : Own w1 w.heap.size 5 (slOf g p.data) p.data := HO.out.less (by simp)
    refine h0.turned (F := (· = w.heap.size)) ((((Turned.refl (· = w.heap.size) w1).setCell (p := ⟨w.heap.size, 0, none⟩) (.inl rfl) _).setCell (p := ⟨w.heap.size, 1, none⟩) (.inl rfl) _).setCell (p := ⟨w.heap.size, 2, none⟩) (.inl rfl) _) (fun k hk e => ?_)
    injection hk with hk
    have : g = k := hk
    simp at hgle
    omega
  · exact ((((Below.refl _ w).alloc (Nat.le_refl _) _).trans (HB.out.mono (by simp))).setCell (p := ⟨w.heap.size, 0, none⟩) (Nat.le_refl _) _ |>.setCell (p := ⟨w.heap.size, 1, none⟩) (Nat.le_refl _) _).setCell (p := ⟨w.heap.size, 2, none⟩) (Nat.le_refl _) _
end Go.Proofs.Ytmhkpdfmjapdnaa
