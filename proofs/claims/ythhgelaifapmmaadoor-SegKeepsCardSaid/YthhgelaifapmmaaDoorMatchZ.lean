/-
  Joined: MatchA MatchB MatchC MatchD MatchE MatchF MatchG MatchJ MatchK MatchN.
-/
import Derived.Test.YthhgelaifapmmaaDoorWordsN
import Derived.Test.YthhgelaifapmmaaDoorMatchMath
namespace Go.Proofs.YthhgelaifapmmaaDoor
open Go.RowKit Mem
set_option linter.unusedVariables false
set_option maxRecDepth 100000

def GivesB (b : Bool) (w : World) (e : Ending) (w' : World) : Prop := e = .returned (.bool b) ∧ w = w'
def GivesZ (z : Int) (w : World) (e : Ending) (w' : World) : Prop := e = .returned (.int .i64 z) ∧ w = w'

set_option maxHeartbeats 400000 in
theorem cmpNaNs_any (x : List UInt8) (w : World) : Calls Tryd.prog 106 #[.string ⟨x.toArray⟩] w (GivesB false w) := by
  go_enter Tryd.func106, Tryd.ntmps106
  go_wp2
  go_ret
  exact ⟨by simp, rfl⟩
set_option maxHeartbeats 400000 in
theorem slNaNs_any (x : List UInt8) (w : World) : Calls Tryd.prog 110 #[.string ⟨x.toArray⟩] w (GivesB false w) := by
  go_enter Tryd.func110, Tryd.ntmps110
  go_wp2
  go_ret
  exact ⟨by simp, rfl⟩
set_option maxHeartbeats 400000 in
theorem less_any (x y : List UInt8) (w : World) : Calls Tryd.prog 91 #[.string ⟨x.toArray⟩, .string ⟨y.toArray⟩] w (GivesB (decide (x < y)) w) := by
  have HQ := Lib.hid (show Op.bytesLess x y = decide (x < y) from bytesLess_eq x y)
  go_enter Tryd.func91, Tryd.ntmps91
  go_wp2_with (go_at_call 106; refine (cmpNaNs_any _ _).mono ?_; rintro e w' ⟨rfl, rfl⟩)
  go_ret
  exact ⟨by rw [← HQ.out]; rfl, rfl⟩
/-- the place that is told does not matter -/
def Found (b : Bool) (w : World) (e : Ending) (w' : World) : Prop := ∃ i : Int, e = .returned (.tuple #[.int .i64 i, .bool b]) ∧ w = w'

set_option maxHeartbeats 2000000 in
theorem search_any (A : Option Addr) (n c B : Nat) (xs : List (List UInt8)) (x : List UInt8) (w : World) (h : RdV w B A n c (strs xs)) (hr : M.Rising xs) (hl : n < 4611686018427387904) :
    Calls Tryd.prog 108 #[.slice A n c, .string ⟨x.toArray⟩] w (Found (decide (x ∈ xs)) w) := by
  have HN := Lib.hid (show xs.length = n by have := h.1; simpa using this.symm)
  have HR := Lib.hid h
  have HS := Lib.hid hr
  have hc := h.2.1
  have hcm := h.max
  have H0 := Lib.hid (M.Split.start xs x)
  rw [HN.out] at H0
  clear h hr
  go_enter Tryd.func108, Tryd.ntmps108
  go_wp2
  go_loop [7, 8] (fun p q => ∃ i j : Nat, p = .int .i64 (i : Int) ∧ q = .int .i64 (j : Int) ∧ i ≤ j ∧ j ≤ n ∧ Hid (M.Split xs x i j)) (fun p q => (intOf q).toNat - (intOf p).toNat)
  case atStart => exact ⟨0, n, rfl, rfl, by omega, by omega, H0⟩
  case round =>
    obtain ⟨i, j, rfl, rfl, hij, hj, HU⟩ := hrel
    by_cases hlt : i < j
    · obtain ⟨h, hh⟩ : ∃ h, h = (i + j) / 2 := ⟨_, rfl⟩
      have hhj : h < j := by omega
      have hhi : i ≤ h := by omega
      have hix : h < xs.length := by rw [HN.out]; omega
      obtain ⟨b, off, rfl, hb, q⟩ := HR.out.at_ (show h < n by omega)
      rw [strs_at hix] at q
      have HH := Lib.hid (show ((i : Int) + (j : Int)) / 2 = (h : Int) by omega)
      subst hh
      by_cases hle : xs[(i + j) / 2] < x
      · have HU2 := Lib.hid (HU.out.up HS.out hix hle)
        have hq : decide (xs[(i + j) / 2] < x) = true := by simpa using hle
        clear hle
        generalize xs[(i + j) / 2] = y at *
        go_wp2_with (go_at_call 91; refine (less_any _ _ _).mono ?_; rintro e w' ⟨rfl, rfl⟩)
        go_round
        case rel => exact ⟨(i + j) / 2 + 1, j, by rw [HH.out]; go_num, rfl, by omega, by omega, HU2⟩
        case measure => simp [intOf]; omega
      · have HU2 := Lib.hid (HU.out.down HS.out hix hle)
        have hq : decide (xs[(i + j) / 2] < x) = false := by simpa using hle
        clear hle
        generalize xs[(i + j) / 2] = y at *
        go_wp2_with (go_at_call 91; refine (less_any _ _ _).mono ?_; rintro e w' ⟨rfl, rfl⟩)
        go_round
        case rel => exact ⟨i, (i + j) / 2, rfl, by rw [HH.out], by omega, by omega, HU2⟩
        case measure => simp [intOf]; omega
    · obtain rfl : i = j := by omega
      by_cases hin : i < n
      · have hix : i < xs.length := by rw [HN.out]; exact hin
        obtain ⟨b, off, rfl, hb, q⟩ := HR.out.at_ hin
        rw [strs_at hix] at q
        have hil : (i : Int) < (n : Int) := by omega
        have HF := Lib.hid (HU.out.at_ HS.out hix)
        by_cases he : xs[i] = x
        · have HF2 := Lib.hid (show decide (x ∈ xs) = true by rw [HF.out]; simpa using he)
          have hq2 : (xs[i] == x) = true := by rw [beq_str]; simpa using he
          clear he HF
          generalize xs[i] = y at *
          go_wp2_with (go_at_call 110; refine (slNaNs_any _ _).mono ?_; rintro e w' ⟨rfl, rfl⟩)
          go_ret2
          exact ⟨_, by rw [HF2.out]; rfl, rfl⟩
        · have HF2 := Lib.hid (show decide (x ∈ xs) = false by rw [HF.out]; simpa using he)
          have hq2 : (xs[i] == x) = false := by rw [beq_str]; simpa using he
          clear he HF
          generalize xs[i] = y at *
          go_wp2_with (go_at_call 110; refine (slNaNs_any _ _).mono ?_; rintro e w' ⟨rfl, rfl⟩)
          go_ret2
          exact ⟨_, by rw [HF2.out]; rfl, rfl⟩
      · have HF2 := Lib.hid (HU.out.none (by rw [HN.out]; omega))
        have hq : decide ((i : Int) < (n : Int)) = false := by simp; omega
        go_wp2_with (go_at_call 110; refine (slNaNs_any _ _).mono ?_; rintro e w' ⟨rfl, rfl⟩)
        go_ret2
        exact ⟨_, by rw [HF2.out]; rfl, rfl⟩
end Go.Proofs.YthhgelaifapmmaaDoor

namespace Go.Proofs.YthhgelaifapmmaaDoor
open Go.RowKit Mem
set_option linter.unusedVariables false
set_option maxRecDepth 100000

def dval (d : M.D) : Value := .agg #[.string ⟨d.id.toArray⟩, .int .i64 d.time, .string ⟨d.text.toArray⟩]
def SaysZ (z : Int) (w : World) (e : Ending) (w' : World) : Prop := e = .returned (.int .i64 z) ∧ Below w.heap.size w w'
def orZ (x y : Int) : Int := if x ≠ 0 then x else y

theorem two_docs (w : World) (a b : M.D) : ((w.alloc (.cells #[.string ⟨a.id.toArray⟩, .int .i64 a.time, .string ⟨a.text.toArray⟩] 52)).alloc (.cells #[.string ⟨b.id.toArray⟩, .int .i64 b.time, .string ⟨b.text.toArray⟩] 52)).cell? ⟨w.heap.size, 0, none⟩ = some (.string ⟨a.id.toArray⟩) ∧
    ((w.alloc (.cells #[.string ⟨a.id.toArray⟩, .int .i64 a.time, .string ⟨a.text.toArray⟩] 52)).alloc (.cells #[.string ⟨b.id.toArray⟩, .int .i64 b.time, .string ⟨b.text.toArray⟩] 52)).cell? ⟨w.heap.size, 1, none⟩ = some (.int .i64 a.time) ∧
    ((w.alloc (.cells #[.string ⟨a.id.toArray⟩, .int .i64 a.time, .string ⟨a.text.toArray⟩] 52)).alloc (.cells #[.string ⟨b.id.toArray⟩, .int .i64 b.time, .string ⟨b.text.toArray⟩] 52)).cell? ⟨w.heap.size + 1, 0, none⟩ = some (.string ⟨b.id.toArray⟩) ∧
    ((w.alloc (.cells #[.string ⟨a.id.toArray⟩, .int .i64 a.time, .string ⟨a.text.toArray⟩] 52)).alloc (.cells #[.string ⟨b.id.toArray⟩, .int .i64 b.time, .string ⟨b.text.toArray⟩] 52)).cell? ⟨w.heap.size + 1, 1, none⟩ = some (.int .i64 b.time) := by
  generalize hW : w.alloc (.cells #[.string ⟨a.id.toArray⟩, .int .i64 a.time, .string ⟨a.text.toArray⟩] 52) = W
  have h1 : W.heap[w.heap.size]? = some (.cells #[.string ⟨a.id.toArray⟩, .int .i64 a.time, .string ⟨a.text.toArray⟩] 52) := by rw [← hW]; exact heap_alloc_new w _
  have h2 : W.heap.size = w.heap.size + 1 := by rw [← hW]; simp
  have h3 := heap_alloc_new W (.cells #[.string ⟨b.id.toArray⟩, .int .i64 b.time, .string ⟨b.text.toArray⟩] 52)
  have h4 := heapOld (o := .cells #[.string ⟨b.id.toArray⟩, .int .i64 b.time, .string ⟨b.text.toArray⟩] 52) h1
  rw [h2] at h3
  exact ⟨cell_of_row _ _ 0 _ _ _ h4, cell_of_row _ _ 1 _ _ _ h4, cell_of_row _ _ 0 _ _ _ h3, cell_of_row _ _ 1 _ _ _ h3⟩

/-- two entries that lie in blocks k and k + 1 -/
def TwoDocs (k : Nat) (a b : M.D) (W : World) : Prop := W.cell? ⟨k, 0, none⟩ = some (.string ⟨a.id.toArray⟩) ∧ W.cell? ⟨k, 1, none⟩ = some (.int .i64 a.time) ∧ W.cell? ⟨k + 1, 0, none⟩ = some (.string ⟨b.id.toArray⟩) ∧ W.cell? ⟨k + 1, 1, none⟩ = some (.int .i64 b.time)
theorem TwoDocs.alloc {k : Nat} {a b : M.D} {W : World} (h : TwoDocs k a b W) (o : Obj) (hk : k + 1 < W.heap.size) : TwoDocs k a b (W.alloc o) :=
  ⟨(World.cell?_alloc_lt W o _ (by show k < _; omega)).trans h.1, (World.cell?_alloc_lt W o _ (by show k < _; omega)).trans h.2.1, (World.cell?_alloc_lt W o _ hk).trans h.2.2.1, (World.cell?_alloc_lt W o _ hk).trans h.2.2.2⟩

end Go.Proofs.YthhgelaifapmmaaDoor

namespace Go.Proofs.YthhgelaifapmmaaDoor
open Go.RowKit Mem
set_option linter.unusedVariables false
set_option maxRecDepth 100000

def idB (c : UInt8) : Bool := decide (33 ≤ c.toNat ∧ c.toNat ≤ 126)
/-- so far all are fit -/
def Fit (id : List UInt8) (j : Nat) : Prop := id.all idB = (id.drop j).all idB
theorem Fit.start (id : List UInt8) : Fit id 0 := rfl
theorem Fit.stop {id : List UInt8} {j : Nat} (h : Fit id j) (hj : j < id.length) (hx : idB id[j] = false) : id.all idB = false := by
  rw [h, List.drop_eq_getElem_cons hj, List.all_cons, hx]; rfl
theorem Fit.step {id : List UInt8} {j : Nat} (h : Fit id j) (hj : j < id.length) (hx : idB id[j] = true) : Fit id (j + 1) := by
  unfold Fit at h ⊢
  rw [h, List.drop_eq_getElem_cons hj, List.all_cons, hx]; rfl
theorem Fit.end_ {id : List UInt8} {j : Nat} (h : Fit id j) (hj : id.length ≤ j) : id.all idB = true := by rw [h, List.drop_eq_nil_of_le hj]; rfl
theorem form_big {id text : List UInt8} (h : id.length = 0 ∨ 32 < id.length ∨ 512 < text.length) : M.formB id text = false := by
  unfold M.formB
  rcases h with h | h | h
  · simp [h]
  · have : ¬ id.length ≤ 32 := by omega
    simp [this]
  · have : ¬ text.length ≤ 512 := by omega
    simp [this]
theorem form_fit {id text : List UInt8} {b : Bool} (h1 : 0 < id.length) (h2 : id.length ≤ 32) (h3 : text.length ≤ 512) (h : id.all idB = b) : M.formB id text = b := by
  rw [← h]
  unfold M.formB idB
  simp [h1, h2, h3]

set_option maxHeartbeats 1000000 in
theorem form_any (d : M.D) (w : World) : Calls Tryd.prog 51 #[dval d] w (SaysB (M.formB d.id d.text) w) := by
  obtain ⟨id, tm, text⟩ := d
  unfold dval
  simp only
  have HB := Lib.hid ((Below.refl w.heap.size w).alloc (Nat.le_refl _) (.cells #[.string ⟨id.toArray⟩, .int .i64 tm, .string ⟨text.toArray⟩] 52))
  by_cases h0 : id = []
  · subst h0
    have HF := Lib.hid (form_big (id := []) (text := text) (.inl rfl))
    go_enter Tryd.func51, Tryd.ntmps51
    go_wp2
    go_ret
    exact ⟨by first | rfl | (rw [HF.out]; rfl), HB.out⟩
  · have hp : 0 < id.length := List.length_pos_iff.2 h0
    have hne : (id == []) = false := by rw [beq_str]; simpa using h0
    have hne2 : ¬ id.length < 1 := by omega
    have hne3 : ¬ (id.length : Int) < 1 := by omega
    clear h0
    by_cases h1 : 32 < id.length
    · have HF := Lib.hid (form_big (id := id) (text := text) (.inr (.inl h1)))
      have hq : decide ((32 : Int) < (id.length : Int)) = true := by simp; omega
      go_enter Tryd.func51, Tryd.ntmps51
      go_wp2
      go_ret
      exact ⟨by first | rfl | (rw [HF.out]; rfl), HB.out⟩
    · have hq : decide ((32 : Int) < (id.length : Int)) = false := by simp; omega
      by_cases h2 : 512 < text.length
      · have HF := Lib.hid (form_big (id := id) (text := text) (.inr (.inr h2)))
        have hq2 : decide ((512 : Int) < (text.length : Int)) = true := by simp; omega
        go_enter Tryd.func51, Tryd.ntmps51
        go_wp2
        go_ret
        exact ⟨by first | rfl | (rw [HF.out]; rfl), HB.out⟩
      · have hq2 : decide ((512 : Int) < (text.length : Int)) = false := by simp; omega
        have HFF := Lib.hid (fun b => form_fit (id := id) (text := text) (b := b) hp (by omega) (by omega))
        go_enter Tryd.func51, Tryd.ntmps51
        go_wp2
        clear hne hne2 hne3 hq2 h2 hq
        go_loop [22] (fun i => ∃ j : Nat, i = .int .i64 j ∧ j ≤ id.length ∧ Hid (Fit id j)) (fun i => id.length - (intOf i).toNat)
        case atStart => exact ⟨0, rfl, by omega, Lib.hid (Fit.start id)⟩
        case round =>
          obtain ⟨j, rfl, hj, HS⟩ := hrel
          by_cases hlt : j < id.length
          · obtain ⟨c, hc⟩ : ∃ c, (⟨id.toArray⟩ : ByteArray)[j]'hlt = c := ⟨_, rfl⟩
            have hc' : id[j] = c := hc
            cases hx : idB id[j] with
            | false =>
              have HF := Lib.hid (HFF.out false (HS.out.stop hlt hx))
              have hx1 : ¬ (33 ≤ id[j].toNat ∧ id[j].toNat ≤ 126) := by simpa [idB] using hx
              rw [hc'] at hx1
              clear hx hc'
              by_cases h3 : c.toNat < 33
              · have hq3 : decide ((c.toNat : Int) < 33) = true := by simp; omega
                go_wp2
                go_ret
                exact ⟨by first | rfl | (rw [HF.out]; rfl), HB.out⟩
              · have hq3 : decide ((c.toNat : Int) < 33) = false := by simp; omega
                have hq4 : decide (126 < (c.toNat : Int)) = true := by simp; omega
                go_wp2
                go_ret
                exact ⟨by first | rfl | (rw [HF.out]; rfl), HB.out⟩
            | true =>
              have HS2 := Lib.hid (HS.out.step hlt hx)
              have hx1 : 33 ≤ id[j].toNat ∧ id[j].toNat ≤ 126 := by simpa [idB] using hx
              rw [hc'] at hx1
              clear hx hc'
              have hq3 : decide ((c.toNat : Int) < 33) = false := by simp; omega
              have hq4 : decide (126 < (c.toNat : Int)) = false := by simp; omega
              go_wp2
              go_round
              case rel => exact ⟨j + 1, by go_num, by omega, HS2⟩
              case measure => simp [intOf]; omega
          · have HF := Lib.hid (HFF.out true (HS.out.end_ (by omega)))
            go_wp2
            go_ret
            exact ⟨by first | rfl | (rw [HF.out]; rfl), HB.out⟩

set_option maxHeartbeats 1000000 in
theorem ref_form_any (d : M.D) (w : World) : Calls Tryd.prog 32 #[dval d] w (SaysB (M.formB d.id d.text) w) := by
  obtain ⟨id, tm, text⟩ := d
  unfold dval
  simp only
  have HB := Lib.hid ((Below.refl w.heap.size w).alloc (Nat.le_refl _) (.cells #[.string ⟨id.toArray⟩, .int .i64 tm, .string ⟨text.toArray⟩] 52))
  by_cases h0 : id = []
  · subst h0
    have HF := Lib.hid (form_big (id := []) (text := text) (.inl rfl))
    go_enter Tryd.func32, Tryd.ntmps32
    go_wp2
    go_ret
    exact ⟨by first | rfl | (rw [HF.out]; rfl), HB.out⟩
  · have hp : 0 < id.length := List.length_pos_iff.2 h0
    have hne : (id == []) = false := by rw [beq_str]; simpa using h0
    have hne2 : ¬ id.length < 1 := by omega
    have hne3 : ¬ (id.length : Int) < 1 := by omega
    clear h0
    by_cases h1 : 32 < id.length
    · have HF := Lib.hid (form_big (id := id) (text := text) (.inr (.inl h1)))
      have hq : decide ((32 : Int) < (id.length : Int)) = true := by simp; omega
      go_enter Tryd.func32, Tryd.ntmps32
      go_wp2
      go_ret
      exact ⟨by first | rfl | (rw [HF.out]; rfl), HB.out⟩
    · have hq : decide ((32 : Int) < (id.length : Int)) = false := by simp; omega
      by_cases h2 : 512 < text.length
      · have HF := Lib.hid (form_big (id := id) (text := text) (.inr (.inr h2)))
        have hq2 : decide ((512 : Int) < (text.length : Int)) = true := by simp; omega
        go_enter Tryd.func32, Tryd.ntmps32
        go_wp2
        go_ret
        exact ⟨by first | rfl | (rw [HF.out]; rfl), HB.out⟩
      · have hq2 : decide ((512 : Int) < (text.length : Int)) = false := by simp; omega
        have HFF := Lib.hid (fun b => form_fit (id := id) (text := text) (b := b) hp (by omega) (by omega))
        go_enter Tryd.func32, Tryd.ntmps32
        go_wp2
        clear hne hne2 hne3 hq2 h2 hq
        go_loop [3] (fun i => ∃ j : Nat, i = .int .i64 j ∧ j ≤ id.length ∧ Hid (Fit id j)) (fun i => id.length - (intOf i).toNat)
        case atStart => exact ⟨0, rfl, by omega, Lib.hid (Fit.start id)⟩
        case round =>
          obtain ⟨j, rfl, hj, HS⟩ := hrel
          by_cases hlt : j < id.length
          · obtain ⟨c, hc⟩ : ∃ c, (⟨id.toArray⟩ : ByteArray)[j]'hlt = c := ⟨_, rfl⟩
            have hc' : id[j] = c := hc
            cases hx : idB id[j] with
            | false =>
              have HF := Lib.hid (HFF.out false (HS.out.stop hlt hx))
              have hx1 : ¬ (33 ≤ id[j].toNat ∧ id[j].toNat ≤ 126) := by simpa [idB] using hx
              rw [hc'] at hx1
              clear hx hc'
              by_cases h3 : c.toNat < 33
              · have hq3 : decide ((c.toNat : Int) < 33) = true := by simp; omega
                go_wp2
                go_ret
                exact ⟨by first | rfl | (rw [HF.out]; rfl), HB.out⟩
              · have hq3 : decide ((c.toNat : Int) < 33) = false := by simp; omega
                have hq4 : decide (126 < (c.toNat : Int)) = true := by simp; omega
                go_wp2
                go_ret
                exact ⟨by first | rfl | (rw [HF.out]; rfl), HB.out⟩
            | true =>
              have HS2 := Lib.hid (HS.out.step hlt hx)
              have hx1 : 33 ≤ id[j].toNat ∧ id[j].toNat ≤ 126 := by simpa [idB] using hx
              rw [hc'] at hx1
              clear hx hc'
              have hq3 : decide ((c.toNat : Int) < 33) = false := by simp; omega
              have hq4 : decide (126 < (c.toNat : Int)) = false := by simp; omega
              go_wp2
              go_round
              case rel => exact ⟨j + 1, by go_num, by omega, HS2⟩
              case measure => simp [intOf]; omega
          · have HF := Lib.hid (HFF.out true (HS.out.end_ (by omega)))
            go_wp2
            go_ret
            exact ⟨by first | rfl | (rw [HF.out]; rfl), HB.out⟩

end Go.Proofs.YthhgelaifapmmaaDoor

namespace Go.Proofs.YthhgelaifapmmaaDoor
open Go.RowKit Mem
set_option linter.unusedVariables false
set_option maxRecDepth 100000

/-- a query: its kind, its text, its number, where its kids lie, its kids -/
inductive Q where
  | mk (kind : Nat) (text : List UInt8) (num : Int) (A : Option Addr) (n c : Nat) (kids : List Q)
namespace Q
def cells : Q → List Value
  | mk k t z A n c _ => [.int .u8 (k : Int), .string ⟨t.toArray⟩, .int .i64 z, .slice A n c]
def val : Q → Value
  | mk k t z A n c _ => .agg #[.int .u8 (k : Int), .string ⟨t.toArray⟩, .int .i64 z, .slice A n c]
mutual
def has (time : Int) (terms : List (List UInt8)) : Q → Bool
  | mk k t z _ _ _ ks => if k = 0 then true else if k = 1 ∨ k = 2 then decide (t ∈ terms) else if k = 3 then hasAll time terms ks else if k = 4 then hasOne time terms ks
    else if k = 5 then decide (ks.length = 1) && !hasOne time terms ks else if k = 6 then decide (z < time) else if k = 7 then decide (time < z) else false
def hasAll (time : Int) (terms : List (List UInt8)) : List Q → Bool
  | [] => true
  | q :: r => has time terms q && hasAll time terms r
def hasOne (time : Int) (terms : List (List UInt8)) : List Q → Bool
  | [] => false
  | q :: r => has time terms q || hasOne time terms r
end
section
variable {tm z : Int} {ts : List (List UInt8)} {t : List UInt8} {A : Option Addr} {n c k : Nat} {ks : List Q}
theorem has0 : has tm ts (mk 0 t z A n c ks) = true := by simp [has]
theorem has1 : has tm ts (mk 1 t z A n c ks) = decide (t ∈ ts) := by simp [has]
theorem has2 : has tm ts (mk 2 t z A n c ks) = decide (t ∈ ts) := by simp [has]
theorem has3 : has tm ts (mk 3 t z A n c ks) = hasAll tm ts ks := by simp [has]
theorem has4 : has tm ts (mk 4 t z A n c ks) = hasOne tm ts ks := by simp [has]
theorem has5 : has tm ts (mk 5 t z A n c ks) = (decide (ks.length = 1) && !hasOne tm ts ks) := by simp [has]
theorem has6 : has tm ts (mk 6 t z A n c ks) = decide (z < tm) := by simp [has]
theorem has7 : has tm ts (mk 7 t z A n c ks) = decide (tm < z) := by simp [has]
theorem has8 : has tm ts (mk (k + 8) t z A n c ks) = false := by
  rw [has, if_neg (by omega), if_neg (by omega), if_neg (by omega), if_neg (by omega), if_neg (by omega), if_neg (by omega), if_neg (by omega)]
theorem hasOne1 (q : Q) : hasOne tm ts [q] = has tm ts q := by simp [hasOne]
end
/-- a row of queries -/
def Row (w : World) (B : Nat) (A : Option Addr) (n c : Nat) (ks : List Q) : Prop :=
  n = ks.length ∧ n ≤ c ∧ c ≤ 9223372036854775807 ∧ (0 < n → ∃ b off, A = some ⟨b, off, none⟩ ∧ b < B ∧ ∀ i (hi : i < ks.length) j, j < 4 → w.cell? ⟨b, off + i * 4 + j, none⟩ = ks[i].cells[j]?)
/-- a query's memory, below block B -/
inductive Ok (w : World) (B : Nat) : Q → Prop
  | mk {k : Nat} {t : List UInt8} {z : Int} {A : Option Addr} {n c : Nat} {ks : List Q} (h1 : k < 256) (h2 : -9223372036854775808 ≤ z ∧ z ≤ 9223372036854775807) (h3 : Row w B A n c ks) (h4 : ∀ q ∈ ks, Ok w B q) : Ok w B (.mk k t z A n c ks)
theorem Row.below {w w' : World} {B n c : Nat} {A : Option Addr} {ks : List Q} (h : Row w B A n c ks) (hb : Below B w w') : Row w' B A n c ks :=
  ⟨h.1, h.2.1, h.2.2.1, fun hn => by
    obtain ⟨b, off, e, hbB, hc⟩ := h.2.2.2 hn
    exact ⟨b, off, e, hbB, fun i hi j hj => (hb.cell (p := ⟨b, off + i * 4 + j, none⟩) hbB).trans (hc i hi j hj)⟩⟩
theorem Row.more {w : World} {B B' n c : Nat} {A : Option Addr} {ks : List Q} (h : Row w B A n c ks) (hB : B ≤ B') : Row w B' A n c ks :=
  ⟨h.1, h.2.1, h.2.2.1, fun hn => by
    obtain ⟨b, off, e, hbB, hc⟩ := h.2.2.2 hn
    exact ⟨b, off, e, by omega, hc⟩⟩
theorem Ok.on {w w' : World} {B : Nat} {q : Q} (h : Ok w B q) (hb : Below B w w') : Ok w' B q := by
  induction h with
  | mk h1 h2 h3 _ ih => exact .mk h1 h2 (h3.below hb) ih
theorem Ok.more {w : World} {B B' : Nat} {q : Q} (h : Ok w B q) (hB : B ≤ B') : Ok w B' q := by
  induction h with
  | mk h1 h2 h3 _ ih => exact .mk h1 h2 (h3.more hB) ih
theorem Row.at_ {w : World} {B n c i : Nat} {A : Option Addr} {ks : List Q} (h : Row w B A n c ks) (hi : i < n) : ∃ b off k t z A' n' c' ks', A = some ⟨b, off, none⟩ ∧ b < B ∧ ks[i]? = some (.mk k t z A' n' c' ks') ∧
    w.cell? ⟨b, off + i * 4, none⟩ = some (.int .u8 (k : Int)) ∧ w.cell? ⟨b, off + i * 4 + 1, none⟩ = some (.string ⟨t.toArray⟩) ∧ w.cell? ⟨b, off + i * 4 + 2, none⟩ = some (.int .i64 z) ∧ w.cell? ⟨b, off + i * 4 + 3, none⟩ = some (.slice A' n' c') := by
  obtain ⟨b, off, e, hb, hc⟩ := h.2.2.2 (by omega)
  have hi' : i < ks.length := by have := h.1; omega
  have h0 := hc i hi' 0 (by omega)
  have h1 := hc i hi' 1 (by omega)
  have h2 := hc i hi' 2 (by omega)
  have h3 := hc i hi' 3 (by omega)
  obtain ⟨q, hq⟩ : ∃ q, ks[i] = q := ⟨_, rfl⟩
  rw [hq] at h0 h1 h2 h3
  obtain ⟨k, t, z, A', n', c', ks'⟩ := q
  exact ⟨b, off, k, t, z, A', n', c', ks', e, hb, by rw [List.getElem?_eq_getElem hi', hq], h0, h1, h2, h3⟩
/-- the first ones do -/
def AllFrom (tm : Int) (ts : List (List UInt8)) (ks : List Q) (j : Nat) : Prop := hasAll tm ts ks = hasAll tm ts (ks.drop j)
def OneFrom (tm : Int) (ts : List (List UInt8)) (ks : List Q) (j : Nat) : Prop := hasOne tm ts ks = hasOne tm ts (ks.drop j)
section
variable {tm : Int} {ts : List (List UInt8)} {ks : List Q} {j : Nat} {q : Q}
theorem drop_at (hq : ks[j]? = some q) : ks.drop j = q :: ks.drop (j + 1) := by
  obtain ⟨h, e⟩ := List.getElem?_eq_some_iff.1 hq
  rw [List.drop_eq_getElem_cons h, e]
theorem AllFrom.stop (h : AllFrom tm ts ks j) (hq : ks[j]? = some q) (hb : has tm ts q = false) : hasAll tm ts ks = false := by rw [h, drop_at hq, hasAll, hb]; rfl
theorem AllFrom.step (h : AllFrom tm ts ks j) (hq : ks[j]? = some q) (hb : has tm ts q = true) : AllFrom tm ts ks (j + 1) := by unfold AllFrom at h ⊢; rw [h, drop_at hq, hasAll, hb]; rfl
theorem AllFrom.end_ (h : AllFrom tm ts ks j) (hj : ks.length ≤ j) : hasAll tm ts ks = true := by rw [h, List.drop_eq_nil_of_le hj, hasAll]
theorem OneFrom.stop (h : OneFrom tm ts ks j) (hq : ks[j]? = some q) (hb : has tm ts q = true) : hasOne tm ts ks = true := by rw [h, drop_at hq, hasOne, hb]; rfl
theorem OneFrom.step (h : OneFrom tm ts ks j) (hq : ks[j]? = some q) (hb : has tm ts q = false) : OneFrom tm ts ks (j + 1) := by unfold OneFrom at h ⊢; rw [h, drop_at hq, hasOne, hb]; rfl
theorem OneFrom.end_ (h : OneFrom tm ts ks j) (hj : ks.length ≤ j) : hasOne tm ts ks = false := by rw [h, List.drop_eq_nil_of_le hj, hasOne]
end
end Q

/-- the entry that is asked, in block g: its terms are taken, or not yet -/
def Asked (w : World) (g : Nat) (d : M.D) (tk : Bool) (A : Option Addr) (n c : Nat) : Prop :=
  w.heap[g]? = some (.cells #[.string ⟨d.id.toArray⟩, .int .i64 d.time, .string ⟨d.text.toArray⟩, .slice A n c, .bool tk] 120 (0, 0)) ∧ (tk = true → RdV w w.heap.size A n c (strs (M.terms d.text)))
def AskAt (w : World) (g : Nat) (d : M.D) : Prop := ∃ tk A n c, Asked w g d tk A n c
theorem AskAt.below {w w' : World} {g : Nat} {d : M.D} (h : AskAt w g d) (hb : Below w.heap.size w w') : AskAt w' g d := by
  obtain ⟨tk, A, n, c, h1, h2⟩ := h
  exact ⟨tk, A, n, c, (hb.block g (heapLt h1)).trans h1, fun e => ((h2 e).below hb).more hb.size⟩
theorem AskAt.alloc {w : World} {g : Nat} {d : M.D} (h : AskAt w g d) (o : Obj) : AskAt (w.alloc o) g d := h.below ((Below.refl _ _).alloc (Nat.le_refl _) o)
theorem AskAt.lt {w : World} {g : Nat} {d : M.D} (h : AskAt w g d) : g < w.heap.size := by
  obtain ⟨tk, A, n, c, h1, _⟩ := h
  exact heapLt h1
/-- what a call with the entry that is asked comes to -/
def Told (w0 : World) (g : Nat) (d : M.D) (b : Bool) (e : Ending) (w' : World) : Prop := e = .returned (.bool b) ∧ AskAt w' g d ∧ Below w0.heap.size w0 w'
end Go.Proofs.YthhgelaifapmmaaDoor

namespace Go.Proofs.YthhgelaifapmmaaDoor
open Go.RowKit Mem
set_option linter.unusedVariables false
set_option maxRecDepth 100000

theorem terms_rising (l : List UInt8) : M.Rising (M.terms l) := M.gather_rising _

set_option maxHeartbeats 2000000 in
theorem askHas_any (w0 : World) (g : Nat) (d : M.D) (t : List UInt8) (w : World) (hT : Tabs w0) (hs : d.text.length ≤ 1073741824) (hg : w0.heap.size ≤ g) (hb : Below w0.heap.size w0 w) (ha : AskAt w g d) :
    Calls Tryd.prog 98 #[.pointer (some ⟨g, 0, none⟩), .string ⟨t.toArray⟩] w (Told w0 g d (decide (t ∈ M.terms d.text))) := by
  obtain ⟨tk, A, n, c, hh, hr⟩ := ha
  have hgw := heapLt hh
  have HL := Lib.hid (terms_len d.text)
  have HRS := Lib.hid (terms_rising d.text)
  have HB := Lib.hid hb
  have HTW := Lib.hid (hT.below hb)
  clear hT hb
  have c2 : w.cell? ⟨g, 2, none⟩ = some (.string ⟨d.text.toArray⟩) := cellAt 2 hh
  have c3 : w.cell? ⟨g, 3, none⟩ = some (.slice A n c) := cellAt 3 hh
  have c4 : w.cell? ⟨g, 4, none⟩ = some (.bool tk) := cellAt 4 hh
  have f3 := freeAt 3 hh
  have f4 := freeAt 4 hh
  have HH := Lib.hid hh
  clear hh
  cases tk with
  | true =>
    have HR := Lib.hid (hr rfl)
    have HNL := Lib.hid (show n = (M.terms d.text).length by have := HR.out.1; simpa using this)
    have hn : n < 4611686018427387904 := by have := HNL.out; have := HL.out; omega
    clear hr f3 f4
    go_enter Tryd.func98, Tryd.ntmps98
    go_wp2_with fail
    refine (search_any A n c _ _ t w HR.out HRS.out hn).mono ?_
    rintro e w1 ⟨i, rfl, rfl⟩
    go_wp2
    go_ret
    exact ⟨rfl, ⟨true, A, n, c, HH.out, fun _ => HR.out⟩, HB.out⟩
  | false =>
    clear hr
    have HCALL := Lib.hid (show Calls Tryd.prog 56 #[.string ⟨d.text.toArray⟩] w (SaysN (M.terms d.text) w) from terms_new ⟨d.text.toArray⟩ w hs HTW.out)
    go_enter Tryd.func98, Tryd.ntmps98
    go_wp2_with fail
    refine HCALL.out.mono ?_
    rintro e w1 ⟨A1, cap1, rfl, hrd1, hb1, hnew1⟩
    have hh1 := (hb1.block g hgw).trans HH.out
    have hh2 := heapSet 3 (.slice A1 (M.terms d.text).length cap1) hh1
    have hh3 := heapSet 4 (.bool true) hh2
    have c3' : ((w1.setCell ⟨g, 3, none⟩ (.slice A1 (M.terms d.text).length cap1)).setCell ⟨g, 4, none⟩ (.bool true)).cell? ⟨g, 3, none⟩ = some (.slice A1 (M.terms d.text).length cap1) := cellAt 3 hh3
    have c3w : w1.cell? ⟨g, 3, none⟩ = some (.slice A n c) := cellAt 3 hh1
    have c4w : w1.cell? ⟨g, 4, none⟩ = some (.bool false) := cellAt 4 hh1
    have f3' := freeAt 3 hh1
    have f4' := freeAt 4 hh1
    have f4'' := freeAt 4 hh2
    have HRD := Lib.hid (show RdV ((w1.setCell ⟨g, 3, none⟩ (.slice A1 (M.terms d.text).length cap1)).setCell ⟨g, 4, none⟩ (.bool true)) w1.heap.size A1 (M.terms d.text).length cap1 (strs (M.terms d.text)) by
      refine ⟨hrd1.1, hrd1.2.1, hrd1.2.2.1, fun hn => ?_⟩
      obtain ⟨b, off, e, hb, hc⟩ := hrd1.2.2.2 hn
      obtain ⟨b', off', e', hb'⟩ := hnew1 hn
      rw [e] at e'
      injection e' with e'
      injection e' with e1 e2 _
      subst e1 e2
      have hne : b ≠ g := by omega
      refine ⟨b, off, e, hb, fun j hj => ?_⟩
      rw [World.cell?_of_block (w := w1) (by
        rw [Below.heap_setCell _ _ _ _ (by exact hne), Below.heap_setCell _ _ _ _ (by exact hne)])]
      exact hc j hj)
    have HHH := Lib.hid hh3
    have HBF := Lib.hid (show Below w0.heap.size w0 ((w1.setCell ⟨g, 3, none⟩ (.slice A1 (M.terms d.text).length cap1)).setCell ⟨g, 4, none⟩ (.bool true)) from ((HB.out.trans (hb1.mono HB.out.size)).setCell (p := ⟨g, 3, none⟩) hg _).setCell (p := ⟨g, 4, none⟩) hg _)
    have hn : (M.terms d.text).length < 4611686018427387904 := by have := HL.out; omega
    clear hh1 hh2 hh3 hrd1 hnew1 hb1 c2 c3 c4 f3 f4 HH HCALL
    generalize (M.terms d.text).length = m at *
    go_wp2_with fail
    refine (search_any A1 m cap1 _ _ t _ HRD.out HRS.out hn).mono ?_
    rintro e w2 ⟨i, rfl, rfl⟩
    clear c3' c3w c4w f3' f4' f4''
    go_wp2
    go_ret
    refine ⟨rfl, ⟨true, A1, m, cap1, ?_, fun _ => HRD.out.more (by simp [World.setCell])⟩, HBF.out⟩
    rw [HHH.out]
    rfl
end Go.Proofs.YthhgelaifapmmaaDoor

namespace Go.Proofs.YthhgelaifapmmaaDoor
open Go.RowKit Mem
set_option linter.unusedVariables false
set_option maxRecDepth 100000

/-- the contract of 'answers' at one query -/
def Answers (w0 : World) (d : M.D) (q : Q) : Prop := ∀ (g : Nat) (w : World), w0.heap.size ≤ g → Below w0.heap.size w0 w → AskAt w g d →
  Calls Tryd.prog 84 #[.pointer (some ⟨g, 0, none⟩), q.val] w (Told w0 g d (q.has d.time (M.terms d.text)))

set_option maxHeartbeats 2000000 in
theorem answersAll_any (w0 : World) (d : M.D) (A : Option Addr) (n c : Nat) (ks : List Q) (hr : Q.Row w0 w0.heap.size A n c ks) (ih : ∀ q ∈ ks, Answers w0 d q) (g : Nat) (w : World) (hg : w0.heap.size ≤ g) (hb : Below w0.heap.size w0 w) (ha : AskAt w g d) :
    Calls Tryd.prog 99 #[.pointer (some ⟨g, 0, none⟩), .slice A n c] w (Told w0 g d (Q.hasAll d.time (M.terms d.text) ks)) := by
  have HR := Lib.hid hr
  have HI := Lib.hid ih
  have hc := hr.2.1
  have hm := hr.2.2.1
  have HN := Lib.hid hr.1
  have HB := Lib.hid hb
  have HA := Lib.hid ha
  clear hr ih hb ha
  go_enter Tryd.func99, Tryd.ntmps99
  go_wp2
  go_loopw [9] (fun i wr => ∃ j : Nat, i = .int .i64 j ∧ j ≤ n ∧ Hid (Q.AllFrom d.time (M.terms d.text) ks j) ∧ Hid (AskAt wr g d) ∧ Hid (Below w0.heap.size w0 wr)) (fun i _ => n - (intOf i).toNat)
  case atStart => exact ⟨0, rfl, by omega, Lib.hid rfl, HA, HB⟩
  case round =>
    obtain ⟨j, rfl, hj, HS, HAr, HBr⟩ := hrel
    rename World => wr
    by_cases hlt : j < n
    · obtain ⟨b, off, k, t, z, A', n', c', ks', rfl, hbB, hq, c0, c1, c2, c3⟩ := (HR.out.below HBr.out).at_ hlt
      have HQ := Lib.hid hq
      have hil : (j : Int) < (n : Int) := by omega
      have HCON := Lib.hid (HI.out _ (List.mem_of_getElem? hq) g (wr.alloc (.cells #[.int .u8 (k : Int), .string ⟨t.toArray⟩, .int .i64 z, .slice A' n' c'] 39)) hg (HBr.out.alloc HBr.out.size _) (HAr.out.alloc _))
      clear hq
      cases hv : Q.has d.time (M.terms d.text) (.mk k t z A' n' c' ks') with
      | false =>
        have HF := Lib.hid (HS.out.stop HQ.out hv)
        rw [hv] at HCON
        clear hv
        go_wp2_with fail
        refine HCON.out.mono ?_
        rintro e w2 ⟨rfl, ha2, hb2⟩
        have HA2 := Lib.hid ha2
        have HB2 := Lib.hid hb2
        clear ha2 hb2
        go_wp2
        go_ret
        exact ⟨by first | rfl | (rw [HF.out]; rfl), HA2.out, HB2.out⟩
      | true =>
        have HF := Lib.hid (HS.out.step HQ.out hv)
        rw [hv] at HCON
        clear hv
        go_wp2_with fail
        refine HCON.out.mono ?_
        rintro e w2 ⟨rfl, ha2, hb2⟩
        have HA2 := Lib.hid ha2
        have HB2 := Lib.hid hb2
        clear ha2 hb2
        go_wp2
        go_roundw
        case rel => exact ⟨j + 1, by go_num, by omega, HF, HA2, HB2⟩
        case measure => simp [intOf]; omega
    · have HF := Lib.hid (HS.out.end_ (by have := HN.out; omega))
      go_wp2
      go_ret
      exact ⟨by first | rfl | (rw [HF.out]; rfl), HAr.out, HBr.out⟩

set_option maxHeartbeats 2000000 in
theorem answersOne_any (w0 : World) (d : M.D) (A : Option Addr) (n c : Nat) (ks : List Q) (hr : Q.Row w0 w0.heap.size A n c ks) (ih : ∀ q ∈ ks, Answers w0 d q) (g : Nat) (w : World) (hg : w0.heap.size ≤ g) (hb : Below w0.heap.size w0 w) (ha : AskAt w g d) :
    Calls Tryd.prog 100 #[.pointer (some ⟨g, 0, none⟩), .slice A n c] w (Told w0 g d (Q.hasOne d.time (M.terms d.text) ks)) := by
  have HR := Lib.hid hr
  have HI := Lib.hid ih
  have hc := hr.2.1
  have hm := hr.2.2.1
  have HN := Lib.hid hr.1
  have HB := Lib.hid hb
  have HA := Lib.hid ha
  clear hr ih hb ha
  go_enter Tryd.func100, Tryd.ntmps100
  go_wp2
  go_loopw [9] (fun i wr => ∃ j : Nat, i = .int .i64 j ∧ j ≤ n ∧ Hid (Q.OneFrom d.time (M.terms d.text) ks j) ∧ Hid (AskAt wr g d) ∧ Hid (Below w0.heap.size w0 wr)) (fun i _ => n - (intOf i).toNat)
  case atStart => exact ⟨0, rfl, by omega, Lib.hid rfl, HA, HB⟩
  case round =>
    obtain ⟨j, rfl, hj, HS, HAr, HBr⟩ := hrel
    rename World => wr
    by_cases hlt : j < n
    · obtain ⟨b, off, k, t, z, A', n', c', ks', rfl, hbB, hq, c0, c1, c2, c3⟩ := (HR.out.below HBr.out).at_ hlt
      have HQ := Lib.hid hq
      have hil : (j : Int) < (n : Int) := by omega
      have HCON := Lib.hid (HI.out _ (List.mem_of_getElem? hq) g (wr.alloc (.cells #[.int .u8 (k : Int), .string ⟨t.toArray⟩, .int .i64 z, .slice A' n' c'] 39)) hg (HBr.out.alloc HBr.out.size _) (HAr.out.alloc _))
      clear hq
      cases hv : Q.has d.time (M.terms d.text) (.mk k t z A' n' c' ks') with
      | true =>
        have HF := Lib.hid (HS.out.stop HQ.out hv)
        rw [hv] at HCON
        clear hv
        go_wp2_with fail
        refine HCON.out.mono ?_
        rintro e w2 ⟨rfl, ha2, hb2⟩
        have HA2 := Lib.hid ha2
        have HB2 := Lib.hid hb2
        clear ha2 hb2
        go_wp2
        go_ret
        exact ⟨by first | rfl | (rw [HF.out]; rfl), HA2.out, HB2.out⟩
      | false =>
        have HF := Lib.hid (HS.out.step HQ.out hv)
        rw [hv] at HCON
        clear hv
        go_wp2_with fail
        refine HCON.out.mono ?_
        rintro e w2 ⟨rfl, ha2, hb2⟩
        have HA2 := Lib.hid ha2
        have HB2 := Lib.hid hb2
        clear ha2 hb2
        go_wp2
        go_roundw
        case rel => exact ⟨j + 1, by go_num, by omega, HF, HA2, HB2⟩
        case measure => simp [intOf]; omega
    · have HF := Lib.hid (HS.out.end_ (by have := HN.out; omega))
      go_wp2
      go_ret
      exact ⟨by first | rfl | (rw [HF.out]; rfl), HAr.out, HBr.out⟩

theorem kind_ne {k j : Nat} (h : k ≠ j) : ((k : Int) == (j : Int)) = false := by simp; omega

set_option maxHeartbeats 4000000 in
theorem answers_any (w0 : World) (d : M.D) (hT : Tabs w0) (hs : d.text.length ≤ 1073741824) {q : Q} (hq : Q.Ok w0 w0.heap.size q) : Answers w0 d q := by
  induction hq with
  | @mk k t z A n c ks h1 h2 h3 h4 ih =>
  intro g w hg hb ha
  have HT := Lib.hid hT
  have HR := Lib.hid h3
  have HI := Lib.hid ih
  have HN := Lib.hid h3.1
  have hc := h3.2.1
  have hm := h3.2.2.1
  obtain ⟨tk, A0, n0, c00, hh, hr⟩ := id ha
  have hgw := heapLt hh
  unfold Q.val
  simp only
  obtain ⟨K, hK⟩ : ∃ K : Int, (k : Int) = K := ⟨_, rfl⟩
  rw [hK]
  obtain ⟨o, ho⟩ : ∃ o, o = Obj.cells #[.int .u8 K, .string ⟨t.toArray⟩, .int .i64 z, .slice A n c] 39 := ⟨_, rfl⟩
  have hh1 := heapOld (o := o) hh
  have hgc : (w.alloc o).cell? ⟨g, 1, none⟩ = some (.int .i64 d.time) := cellAt 1 hh1
  have HB1 := Lib.hid (hb.alloc hb.size o)
  have HA1 := Lib.hid (ha.alloc o)
  have hne : g ≠ w.heap.size := by omega
  subst ho
  clear hT h3 h4 ih hb ha hh hr hh1
  match k, h1, hK with
  | 0, _, hK =>
    obtain rfl : K = 0 := hK.symm
    clear hK
    go_enter Tryd.func84, Tryd.ntmps84
    go_wp2
    go_ret
    exact ⟨by rw [Q.has0]; rfl, HA1.out, HB1.out⟩
  | 1, _, hK =>
    obtain rfl : K = 1 := hK.symm
    clear hK
    go_enter Tryd.func84, Tryd.ntmps84
    go_wp2_with fail
    refine (askHas_any w0 g d t _ HT.out hs hg HB1.out HA1.out).mono ?_
    rintro e w2 ⟨rfl, ha2, hb2⟩
    have HA2 := Lib.hid ha2
    have HB2 := Lib.hid hb2
    clear ha2 hb2
    go_wp2
    go_ret
    exact ⟨by rw [Q.has1]; rfl, HA2.out, HB2.out⟩
  | 2, _, hK =>
    obtain rfl : K = 2 := hK.symm
    clear hK
    go_enter Tryd.func84, Tryd.ntmps84
    go_wp2_with fail
    refine (askHas_any w0 g d t _ HT.out hs hg HB1.out HA1.out).mono ?_
    rintro e w2 ⟨rfl, ha2, hb2⟩
    have HA2 := Lib.hid ha2
    have HB2 := Lib.hid hb2
    clear ha2 hb2
    go_wp2
    go_ret
    exact ⟨by rw [Q.has2]; rfl, HA2.out, HB2.out⟩
  | 3, _, hK =>
    obtain rfl : K = 3 := hK.symm
    clear hK
    go_enter Tryd.func84, Tryd.ntmps84
    go_wp2_with fail
    refine (answersAll_any w0 d A n c ks HR.out HI.out g _ hg HB1.out HA1.out).mono ?_
    rintro e w2 ⟨rfl, ha2, hb2⟩
    have HA2 := Lib.hid ha2
    have HB2 := Lib.hid hb2
    clear ha2 hb2
    go_wp2
    go_ret
    exact ⟨by rw [Q.has3]; rfl, HA2.out, HB2.out⟩
  | 4, _, hK =>
    obtain rfl : K = 4 := hK.symm
    clear hK
    go_enter Tryd.func84, Tryd.ntmps84
    go_wp2_with fail
    refine (answersOne_any w0 d A n c ks HR.out HI.out g _ hg HB1.out HA1.out).mono ?_
    rintro e w2 ⟨rfl, ha2, hb2⟩
    have HA2 := Lib.hid ha2
    have HB2 := Lib.hid hb2
    clear ha2 hb2
    go_wp2
    go_ret
    exact ⟨by rw [Q.has4]; rfl, HA2.out, HB2.out⟩
  | 5, _, hK =>
    obtain rfl : K = 5 := hK.symm
    clear hK
    by_cases h1 : n = 1
    · subst h1
      obtain ⟨b, off, k', t', z', A', n', c', ks', rfl, hbB, hq, c0, c1, c2, c3⟩ := (HR.out.below HB1.out).at_ (show 0 < 1 by omega)
      have HCON := Lib.hid (HI.out _ (List.mem_of_getElem? hq) g _ hg HB1.out HA1.out)
      have HF := Lib.hid (show Q.has d.time (M.terms d.text) (.mk 5 t z (some ⟨b, off, none⟩) 1 c ks) = !Q.has d.time (M.terms d.text) (.mk k' t' z' A' n' c' ks') by
        have h1 : ks.length = 1 := HN.out.symm
        match ks, h1, hq with
        | [q], _, hq =>
          simp at hq
          subst hq
          rw [Q.has5, Q.hasOne1]; simp)
      rw [Nat.zero_mul, Nat.add_zero] at c0 c1 c2 c3
      clear hq
      go_enter Tryd.func84, Tryd.ntmps84
      go_wp2_with fail
      refine HCON.out.mono ?_
      rintro e w2 ⟨rfl, ha2, hb2⟩
      have HA2 := Lib.hid ha2
      have HB2 := Lib.hid hb2
      clear ha2 hb2
      go_wp2
      go_ret
      exact ⟨by rw [HF.out]; rfl, HA2.out, HB2.out⟩
    · have hq1 : ((n : Int) == 1) = false := by simp; omega
      have HF := Lib.hid (show Q.has d.time (M.terms d.text) (.mk 5 t z A n c ks) = false by
        have : ¬ ks.length = 1 := by have := HN.out; omega
        rw [Q.has5]; simp [this])
      clear h1
      go_enter Tryd.func84, Tryd.ntmps84
      go_wp2
      go_ret
      exact ⟨by rw [HF.out]; rfl, HA1.out, HB1.out⟩
  | 6, _, hK =>
    obtain rfl : K = 6 := hK.symm
    clear hK
    go_enter Tryd.func84, Tryd.ntmps84
    go_wp2_with fail
    go_quiet (fail)
    go_wp2
    go_ret
    exact ⟨by rw [Q.has6]; rfl, HA1.out, bel_drewN HB1.out _⟩
  | 7, _, hK =>
    obtain rfl : K = 7 := hK.symm
    clear hK
    go_enter Tryd.func84, Tryd.ntmps84
    go_wp2_with fail
    go_quiet (fail)
    go_wp2
    go_ret
    exact ⟨by rw [Q.has7]; rfl, HA1.out, bel_drewN HB1.out _⟩
  | k + 8, hk, hK =>
    have q0 : (K == 0) = false := by simp; omega
    have q1 : (K == 1) = false := by simp; omega
    have q2 : (K == 2) = false := by simp; omega
    have q3 : (K == 3) = false := by simp; omega
    have q4 : (K == 4) = false := by simp; omega
    have q5 : (K == 5) = false := by simp; omega
    have q6 : (K == 6) = false := by simp; omega
    have q7 : (K == 7) = false := by simp; omega
    clear hK
    go_enter Tryd.func84, Tryd.ntmps84
    go_wp2
    go_ret
    exact ⟨by rw [Q.has8]; rfl, HA1.out, HB1.out⟩

set_option maxHeartbeats 4000000 in
theorem answers_time (w0 : World) (d : M.D) (k : Nat) (t : List UInt8) (z : Int) (A : Option Addr) (n c : Nat) (ks : List Q) (hk : k = 6 ∨ k = 7) : Answers w0 d (.mk k t z A n c ks) := by
  intro g w hg hb ha
  obtain ⟨tk, A0, n0, c00, hh, hr⟩ := id ha
  have hgw := heapLt hh
  unfold Q.val
  simp only
  obtain ⟨K, hK⟩ : ∃ K : Int, (k : Int) = K := ⟨_, rfl⟩
  rw [hK]
  obtain ⟨o, ho⟩ : ∃ o, o = Obj.cells #[.int .u8 K, .string ⟨t.toArray⟩, .int .i64 z, .slice A n c] 39 := ⟨_, rfl⟩
  have hh1 := heapOld (o := o) hh
  have hgc : (w.alloc o).cell? ⟨g, 1, none⟩ = some (.int .i64 d.time) := cellAt 1 hh1
  have HB1 := Lib.hid (hb.alloc hb.size o)
  have HA1 := Lib.hid (ha.alloc o)
  have hne : g ≠ w.heap.size := by omega
  subst ho
  clear hb ha hh hr hh1
  rcases hk with rfl | rfl
  · obtain rfl : K = 6 := hK.symm
    clear hK
    go_enter Tryd.func84, Tryd.ntmps84
    go_wp2_with fail
    go_quiet (fail)
    go_wp2
    go_ret
    exact ⟨by rw [Q.has6]; rfl, HA1.out, bel_drewN HB1.out _⟩
  · obtain rfl : K = 7 := hK.symm
    clear hK
    go_enter Tryd.func84, Tryd.ntmps84
    go_wp2_with fail
    go_quiet (fail)
    go_wp2
    go_ret
    exact ⟨by rw [Q.has7]; rfl, HA1.out, bel_drewN HB1.out _⟩
end Go.Proofs.YthhgelaifapmmaaDoor

namespace Go.Proofs.YthhgelaifapmmaaDoor
open Go.RowKit Mem
set_option linter.unusedVariables false
set_option maxRecDepth 100000

set_option maxHeartbeats 2000000 in
theorem has_of (q : Q) (d : M.D) (w : World) (hC : Answers w d q) :
    Calls Tryd.prog 77 #[q.val, dval d] w (SaysB (q.has d.time (M.terms d.text)) w) := by
  have HC := Lib.hid hC
  obtain ⟨k, t, z, A, n, c, ks⟩ := q
  obtain ⟨id, tm, text⟩ := d
  obtain ⟨K, hK⟩ : ∃ K : Int, (k : Int) = K := ⟨_, rfl⟩
  have HB1 := Lib.hid ((Below.refl w.heap.size w).alloc (Nat.le_refl _) (.cells #[.int .u8 K, .string ⟨t.toArray⟩, .int .i64 z, .slice A n c] 39))
  have HB2 := Lib.hid (HB1.out.alloc HB1.out.size (.cells #[.string ⟨id.toArray⟩, .int .i64 tm, .string ⟨text.toArray⟩] 52))
  have HB3 := Lib.hid (HB2.out.alloc HB2.out.size (.cells #[.string ⟨id.toArray⟩, .int .i64 tm, .string ⟨text.toArray⟩, .slice none 0 0, .bool false] 120))
  have HA := Lib.hid (show AskAt (((w.alloc (.cells #[.int .u8 K, .string ⟨t.toArray⟩, .int .i64 z, .slice A n c] 39)).alloc (.cells #[.string ⟨id.toArray⟩, .int .i64 tm, .string ⟨text.toArray⟩] 52)).alloc (.cells #[.string ⟨id.toArray⟩, .int .i64 tm, .string ⟨text.toArray⟩, .slice none 0 0, .bool false] 120)) (w.heap.size + 1 + 1) ⟨id, tm, text⟩ from
    ⟨false, none, 0, 0, by
      have h := heap_alloc_new ((w.alloc (.cells #[.int .u8 K, .string ⟨t.toArray⟩, .int .i64 z, .slice A n c] 39)).alloc (.cells #[.string ⟨id.toArray⟩, .int .i64 tm, .string ⟨text.toArray⟩] 52)) (.cells #[.string ⟨id.toArray⟩, .int .i64 tm, .string ⟨text.toArray⟩, .slice none 0 0, .bool false] 120)
      simpa using h, fun h => by cases h⟩)
  have HC2 := Lib.hid (HC.out (w.heap.size + 1 + 1) _ (by omega) HB3.out HA.out)
  unfold Q.val at HC2 ⊢
  unfold dval
  simp only at HC2 ⊢
  rw [hK] at HC2 ⊢
  clear hC HC HA HB1 HB2 HB3
  generalize Q.has tm (M.terms text) (.mk k t z A n c ks) = b at *
  clear hK
  go_enter Tryd.func77, Tryd.ntmps77
  go_wp2_with fail
  refine HC2.out.mono ?_
  rintro e w2 ⟨rfl, _, hb2⟩
  have HB := Lib.hid hb2
  clear hb2
  go_wp2
  go_ret
  exact ⟨rfl, HB.out⟩

theorem has_any (q : Q) (d : M.D) (w : World) (hT : Tabs w) (hs : d.text.length ≤ 1073741824) (hq : Q.Ok w w.heap.size q) :
    Calls Tryd.prog 77 #[q.val, dval d] w (SaysB (q.has d.time (M.terms d.text)) w) := has_of q d w (answers_any w d hT hs hq)

/-- match.Has at a time: the text is not looked at -/
theorem time_any (k : Nat) (K : Int) (z : Int) (d : M.D) (w : World) (hk : k = 6 ∨ k = 7) (hK : (k : Int) = K) {b : Bool} (hb : Q.has d.time (M.terms d.text) (.mk k [] z none 0 0 []) = b) :
    Calls Tryd.prog 77 #[.agg #[.int .u8 K, .string ⟨#[]⟩, .int .i64 z, .slice none 0 0], dval d] w (SaysB b w) := by
  have h := has_of (.mk k [] z none 0 0 []) d w (answers_time w d k [] z none 0 0 [] hk)
  rw [hb] at h
  unfold Q.val at h
  simp only at h
  rwa [hK] at h
/-- a query with no kids -/
theorem leaf_ok (w : World) (B k : Nat) (t : List UInt8) (z : Int) (hk : k < 256) (hz : -9223372036854775808 ≤ z ∧ z ≤ 9223372036854775807) : Q.Ok w B (.mk k t z none 0 0 []) :=
  .mk hk hz ⟨rfl, Nat.le_refl _, by omega, fun h => absurd h (by omega)⟩ (fun q h => by simp at h)
/-- match.Has at a query with no kids -/
theorem leaf_any (k : Nat) (K : Int) (t : List UInt8) (z : Int) (d : M.D) (w : World) (hT : Tabs w) (hs : d.text.length ≤ 1073741824) (hk : k < 256) (hz : -9223372036854775808 ≤ z ∧ z ≤ 9223372036854775807) (hK : (k : Int) = K) {b : Bool} (hb : Q.has d.time (M.terms d.text) (.mk k t z none 0 0 []) = b) :
    Calls Tryd.prog 77 #[.agg #[.int .u8 K, .string ⟨t.toArray⟩, .int .i64 z, .slice none 0 0], dval d] w (SaysB b w) := by
  have h := has_any (.mk k t z none 0 0 []) d w hT hs (leaf_ok w _ k t z hk hz)
  rw [hb] at h
  unfold Q.val at h
  simp only at h
  rwa [hK] at h

/-- an entry that lies in block g -/
def DocIn (W : World) (g : Nat) (d : M.D) : Prop := W.heap[g]? = some (.cells #[.string ⟨d.id.toArray⟩, .int .i64 d.time, .string ⟨d.text.toArray⟩] 52 (0, 0))
theorem DocIn.new (w : World) (d : M.D) : DocIn (w.alloc (.cells #[.string ⟨d.id.toArray⟩, .int .i64 d.time, .string ⟨d.text.toArray⟩] 52)) w.heap.size d := heap_alloc_new w _
theorem DocIn.on {W W' : World} {g : Nat} {d : M.D} (h : DocIn W g d) (hb : Below W.heap.size W W') : DocIn W' g d := (hb.block g (heapLt h)).trans h
theorem DocIn.cells {W : World} {g : Nat} {d : M.D} (h : DocIn W g d) : W.cell? ⟨g, 0, none⟩ = some (.string ⟨d.id.toArray⟩) ∧ W.cell? ⟨g, 1, none⟩ = some (.int .i64 d.time) ∧ W.cell? ⟨g, 2, none⟩ = some (.string ⟨d.text.toArray⟩) := ⟨cellAt 0 h, cellAt 1 h, cellAt 2 h⟩

def exDoc : M.D := ⟨[97], 3, [82, 101, 100]⟩
theorem ex_red : M.terms [82, 101, 100] = [[114, 101, 100]] := by decide +kernel

end Go.Proofs.YthhgelaifapmmaaDoor

namespace Go.Proofs.YthhgelaifapmmaaDoor
open Go.RowKit Mem
set_option linter.unusedVariables false
set_option maxRecDepth 100000

def Says0 (w0 : World) (b : Bool) (e : Ending) (w' : World) : Prop := e = .returned (.bool b) ∧ Below w0.heap.size w0 w'
/-- a query that lies in block g, as a variable -/
def BoxIn (W : World) (g : Nat) (K : Int) (t : List UInt8) (z : Int) (A : Option Addr) (n c : Nat) : Prop := W.heap[g]? = some (.cells #[.int .u8 K, .string ⟨t.toArray⟩, .int .i64 z, .slice A n c] 39 (0, 0))
theorem BoxIn.new (w : World) (K : Int) (t : List UInt8) (z : Int) (A : Option Addr) (n c : Nat) : BoxIn (w.alloc (.cells #[.int .u8 K, .string ⟨t.toArray⟩, .int .i64 z, .slice A n c] 39)) w.heap.size K t z A n c := heap_alloc_new w _
theorem BoxIn.cells {W : World} {g : Nat} {K : Int} {t : List UInt8} {z : Int} {A : Option Addr} {n c : Nat} (h : BoxIn W g K t z A n c) : W.cell? ⟨g, 0, none⟩ = some (.int .u8 K) ∧ W.cell? ⟨g, 1, none⟩ = some (.string ⟨t.toArray⟩) ∧ W.cell? ⟨g, 2, none⟩ = some (.int .i64 z) ∧ W.cell? ⟨g, 3, none⟩ = some (.slice A n c) := ⟨cellAt 0 h, cellAt 1 h, cellAt 2 h, cellAt 3 h⟩
theorem BoxIn.on {W W' : World} {g : Nat} {K : Int} {t : List UInt8} {z : Int} {A : Option Addr} {n c : Nat} (h : BoxIn W g K t z A n c) (hb : Below W.heap.size W W') : BoxIn W' g K t z A n c := (hb.block g (heapLt h)).trans h

/-- so far none -/
def SoughtS (ts : List (List UInt8)) (t : List UInt8) (j : Nat) : Prop := decide (t ∈ ts) = decide (t ∈ ts.drop j)
theorem SoughtS.found {ts : List (List UInt8)} {t : List UInt8} {j : Nat} (h : SoughtS ts t j) (hj : j < ts.length) (e : ts[j] = t) : decide (t ∈ ts) = true := by rw [h, List.drop_eq_getElem_cons hj, e]; simp
theorem SoughtS.step {ts : List (List UInt8)} {t : List UInt8} {j : Nat} (h : SoughtS ts t j) (hj : j < ts.length) (e : ts[j] ≠ t) : SoughtS ts t (j + 1) := by
  unfold SoughtS at h ⊢
  rw [h, List.drop_eq_getElem_cons hj, decide_eq_decide, List.mem_cons]
  exact ⟨fun x => x.resolve_left (Ne.symm e), .inr⟩
theorem SoughtS.end_ {ts : List (List UInt8)} {t : List UInt8} {j : Nat} (h : SoughtS ts t j) (hj : ts.length ≤ j) : decide (t ∈ ts) = false := by rw [h, List.drop_eq_nil_of_le hj]; simp

/-- what 'left' tells: a smaller number -/
def LeftTold (w : World) (n : Int) (e : Ending) (w' : World) : Prop := ∃ m : Int, e = .returned (.int .i64 m) ∧ -1 ≤ m ∧ m < n ∧ Below w.heap.size w w'
def LeftC (w0 : World) (q : Q) : Prop := ∀ (w : World) (n : Int), 0 ≤ n → n ≤ 2000 → Below w0.heap.size w0 w → Calls Tryd.prog 45 #[q.val, .int .i64 n] w (LeftTold w n)
def SomeB (w : World) (e : Ending) (w' : World) : Prop := ∃ b : Bool, e = .returned (.bool b) ∧ Below w.heap.size w w'

set_option maxHeartbeats 2000000 in
theorem left_any (w0 : World) {q : Q} (hq : Q.Ok w0 w0.heap.size q) : LeftC w0 q := by
  induction hq with
  | @mk k t z A n c ks h1 h2 h3 h4 ih =>
  intro w most hm0 hm1 hb
  have HR := Lib.hid h3
  have HI := Lib.hid ih
  have HN := Lib.hid h3.1
  have hc := h3.2.1
  have hcm := h3.2.2.1
  unfold Q.val
  simp only
  obtain ⟨K, hK⟩ : ∃ K : Int, (k : Int) = K := ⟨_, rfl⟩
  rw [hK]
  have HX := Lib.hid (BoxIn.new w K t z A n c)
  have HB0 := Lib.hid hb
  have HB := Lib.hid ((Below.refl w.heap.size w).alloc (Nat.le_refl _) (.cells #[.int .u8 K, .string ⟨t.toArray⟩, .int .i64 z, .slice A n c] 39))
  clear hK h3 h4 ih hb
  go_enter Tryd.func45, Tryd.ntmps45
  go_wp2
  go_loopw [1, 5] (fun p i wr => ∃ (m : Int) (j : Nat), p = .int .i64 m ∧ i = .int .i64 j ∧ j ≤ n ∧ -1 ≤ m ∧ m < most ∧ Hid (BoxIn wr w.heap.size K t z A n c) ∧ Hid (Below w.heap.size w wr)) (fun _ i _ => n - (intOf i).toNat)
  case atStart => exact ⟨most - 1, 0, by go_num, rfl, by omega, by omega, by omega, HX, HB⟩
  case round =>
    obtain ⟨m, j, rfl, rfl, hj, hm2, hm3, HXr, HBr⟩ := hrel
    rename World => wr
    obtain ⟨b0, b1, b2, b3⟩ := HXr.out.cells
    have HBw := Lib.hid (HB0.out.trans (HBr.out.mono HB0.out.size))
    by_cases hlt : j < n
    · have hq1 : decide ((j : Int) < (n : Int)) = true := by simp; omega
      by_cases hm4 : 0 ≤ m
      · obtain ⟨b, off, k', t', z', A', n', c', ks', rfl, hbB, hq, c0, c1, c2, c3⟩ := (HR.out.below HBw.out).at_ hlt
        have HCON := Lib.hid (HI.out _ (List.mem_of_getElem? hq) wr m hm4 (by omega) HBw.out)
        unfold Q.val at HCON
        simp only at HCON
        clear hq
        go_wp2_with fail
        refine HCON.out.mono ?_
        rintro e w2 ⟨m', rfl, h5, h6, h7⟩
        have HX2 := Lib.hid (HXr.out.on h7)
        have HB2 := Lib.hid (HBr.out.trans (h7.mono HBr.out.size))
        clear h7 c0 c1 c2 c3 b0 b1 b2 b3
        go_wp2
        go_roundw
        case rel => exact ⟨m', j + 1, rfl, by go_num, by omega, by omega, by omega, HX2, HB2⟩
        case measure => simp [intOf]; omega
      · have hq2 : decide (0 ≤ m) = false := by simpa using hm4
        go_wp2
        go_ret
        exact ⟨m, rfl, hm2, hm3, HBr.out⟩
    · have hq1 : decide ((j : Int) < (n : Int)) = false := by simp; omega
      go_wp2
      go_ret
      exact ⟨m, rfl, hm2, hm3, HBr.out⟩

set_option maxHeartbeats 2000000 in
theorem great_any (q : Q) (w : World) (hq : Q.Ok w w.heap.size q) : Calls Tryd.prog 17 #[q.val, .int .i64 2000] w (SomeB w) := by
  have HC := Lib.hid (left_any w hq)
  obtain ⟨k, t, z, A, n, c, ks⟩ := q
  obtain ⟨K, hK⟩ : ∃ K : Int, (k : Int) = K := ⟨_, rfl⟩
  have HB := Lib.hid ((Below.refl w.heap.size w).alloc (Nat.le_refl _) (.cells #[.int .u8 K, .string ⟨t.toArray⟩, .int .i64 z, .slice A n c] 39))
  have HC2 := Lib.hid (HC.out _ 2000 (by omega) (by omega) HB.out)
  unfold Q.val at HC2 ⊢
  simp only at HC2 ⊢
  rw [hK] at HC2 ⊢
  clear hK hq HC
  go_enter Tryd.func17, Tryd.ntmps17
  go_wp2_with fail
  refine HC2.out.mono ?_
  rintro e w2 ⟨m, rfl, _, _, hb2⟩
  have HB2 := Lib.hid (HB.out.trans (hb2.mono HB.out.size))
  clear hb2
  go_wp2
  go_ret
  exact ⟨_, rfl, HB2.out⟩

/-- the contract of the document's 'has' at one query -/
def RefHas (w0 : World) (tm : Int) (A0 : Option Addr) (n0 c0 : Nat) (ts : List (List UInt8)) (q : Q) : Prop := ∀ w : World, Below w0.heap.size w0 w → Calls Tryd.prog 67 #[q.val, .int .i64 tm, .slice A0 n0 c0] w (SaysB (q.has tm ts) w)

set_option maxHeartbeats 4000000 in
theorem refHas_any (w0 : World) (tm : Int) (A0 : Option Addr) (n0 c0 : Nat) (ts : List (List UInt8)) (hts : RdV w0 w0.heap.size A0 n0 c0 (strs ts)) {q : Q} (hq : Q.Ok w0 w0.heap.size q) : RefHas w0 tm A0 n0 c0 ts q := by
  induction hq with
  | @mk k t z A n c ks h1 h2 h3 h4 ih =>
  intro w hb
  have HTS := Lib.hid hts
  have HNT := Lib.hid (show n0 = ts.length by have := hts.1; simpa using this)
  have hc0 := hts.2.1
  have hm0 := hts.max
  have HR := Lib.hid h3
  have HI := Lib.hid ih
  have HN := Lib.hid h3.1
  have hc := h3.2.1
  have hm := h3.2.2.1
  unfold Q.val
  simp only
  obtain ⟨K, hK⟩ : ∃ K : Int, (k : Int) = K := ⟨_, rfl⟩
  rw [hK]
  have HX := Lib.hid (BoxIn.new w K t z A n c)
  have HB0 := Lib.hid hb
  have HB := Lib.hid ((Below.refl w.heap.size w).alloc (Nat.le_refl _) (.cells #[.int .u8 K, .string ⟨t.toArray⟩, .int .i64 z, .slice A n c] 39))
  have HTS1 := Lib.hid (hts.below (hb.alloc hb.size (.cells #[.int .u8 K, .string ⟨t.toArray⟩, .int .i64 z, .slice A n c] 39)))
  clear hts h3 h4 ih hb
  match k, h1, hK with
  | 0, _, hK =>
    obtain rfl : K = 0 := hK.symm
    clear hK
    go_enter Tryd.func67, Tryd.ntmps67
    go_wp2
    go_ret
    exact ⟨by rw [Q.has0]; rfl, HB.out⟩
  | 1, _, hK =>
    obtain rfl : K = 1 := hK.symm
    clear hK
    have HFF := Lib.hid (fun (b : Bool) (h : decide (t ∈ ts) = b) => (Q.has1 (tm := tm) (ts := ts) (t := t) (z := z) (A := A) (n := n) (c := c) (ks := ks)).trans h)
    go_enter Tryd.func67, Tryd.ntmps67
    go_wp2
    go_loopw [7] (fun i wr => ∃ j : Nat, i = .int .i64 j ∧ j ≤ n0 ∧ Hid (SoughtS ts t j) ∧ Hid (∃ x, wr = (w.alloc (.cells #[.int .u8 1, .string ⟨t.toArray⟩, .int .i64 z, .slice A n c] 39)).drewN x)) (fun i _ => n0 - (intOf i).toNat)
    case atStart => exact ⟨0, rfl, by omega, Lib.hid rfl, Lib.hid ⟨0, rfl⟩⟩
    case round =>
      obtain ⟨j, rfl, hj, HS, HW⟩ := hrel
      obtain ⟨x0, rfl⟩ := HW.out
      by_cases hlt : j < n0
      · have hix : j < ts.length := by rw [← HNT.out]; exact hlt
        obtain ⟨b, off, rfl, hb0, q⟩ := HTS1.out.at_ hlt
        rw [strs_at hix] at q
        have hil : (j : Int) < (n0 : Int) := by omega
        by_cases he : ts[j] = t
        · have HF := Lib.hid (HFF.out _ (HS.out.found hix he))
          have hq2 : (ts[j] == t) = true := by rw [beq_str]; simpa using he
          clear he
          generalize ts[j] = y at *
          go_wp2_with fail
          go_quiet (fail)
          go_wp2
          go_ret
          exact ⟨by first | rfl | (rw [HF.out]; rfl), bel_drewN (bel_drewN HB.out _) _⟩
        · have HF := Lib.hid (HS.out.step hix he)
          have hq2 : (ts[j] == t) = false := by rw [beq_str]; simpa using he
          clear he
          generalize ts[j] = y at *
          go_wp2_with fail
          go_quiet (fail)
          go_wp2
          go_roundw
          case rel => exact ⟨j + 1, by go_num, by omega, HF, Lib.hid ⟨_, rfl⟩⟩
          case measure => simp [intOf]; omega
      · have HF := Lib.hid (HFF.out _ (HS.out.end_ (by rw [← HNT.out]; omega)))
        go_wp2
        go_ret
        exact ⟨by first | rfl | (rw [HF.out]; rfl), bel_drewN HB.out _⟩
  | 2, _, hK =>
    obtain rfl : K = 2 := hK.symm
    clear hK
    have HFF := Lib.hid (fun (b : Bool) (h : decide (t ∈ ts) = b) => (Q.has2 (tm := tm) (ts := ts) (t := t) (z := z) (A := A) (n := n) (c := c) (ks := ks)).trans h)
    go_enter Tryd.func67, Tryd.ntmps67
    go_wp2
    go_loopw [7] (fun i wr => ∃ j : Nat, i = .int .i64 j ∧ j ≤ n0 ∧ Hid (SoughtS ts t j) ∧ Hid (∃ x, wr = (w.alloc (.cells #[.int .u8 2, .string ⟨t.toArray⟩, .int .i64 z, .slice A n c] 39)).drewN x)) (fun i _ => n0 - (intOf i).toNat)
    case atStart => exact ⟨0, rfl, by omega, Lib.hid rfl, Lib.hid ⟨0, rfl⟩⟩
    case round =>
      obtain ⟨j, rfl, hj, HS, HW⟩ := hrel
      obtain ⟨x0, rfl⟩ := HW.out
      by_cases hlt : j < n0
      · have hix : j < ts.length := by rw [← HNT.out]; exact hlt
        obtain ⟨b, off, rfl, hb0, q⟩ := HTS1.out.at_ hlt
        rw [strs_at hix] at q
        have hil : (j : Int) < (n0 : Int) := by omega
        by_cases he : ts[j] = t
        · have HF := Lib.hid (HFF.out _ (HS.out.found hix he))
          have hq2 : (ts[j] == t) = true := by rw [beq_str]; simpa using he
          clear he
          generalize ts[j] = y at *
          go_wp2_with fail
          go_quiet (fail)
          go_wp2
          go_ret
          exact ⟨by first | rfl | (rw [HF.out]; rfl), bel_drewN (bel_drewN HB.out _) _⟩
        · have HF := Lib.hid (HS.out.step hix he)
          have hq2 : (ts[j] == t) = false := by rw [beq_str]; simpa using he
          clear he
          generalize ts[j] = y at *
          go_wp2_with fail
          go_quiet (fail)
          go_wp2
          go_roundw
          case rel => exact ⟨j + 1, by go_num, by omega, HF, Lib.hid ⟨_, rfl⟩⟩
          case measure => simp [intOf]; omega
      · have HF := Lib.hid (HFF.out _ (HS.out.end_ (by rw [← HNT.out]; omega)))
        go_wp2
        go_ret
        exact ⟨by first | rfl | (rw [HF.out]; rfl), bel_drewN HB.out _⟩
  | 3, _, hK =>
    obtain rfl : K = 3 := hK.symm
    clear hK
    have HFF := Lib.hid (fun (b : Bool) (h : Q.hasAll tm ts ks = b) => (Q.has3 (tm := tm) (ts := ts) (t := t) (z := z) (A := A) (n := n) (c := c) (ks := ks)).trans h)
    go_enter Tryd.func67, Tryd.ntmps67
    go_wp2
    go_loopw [8] (fun i wr => ∃ j : Nat, i = .int .i64 j ∧ j ≤ n ∧ Hid (Q.AllFrom tm ts ks j) ∧ Hid (BoxIn wr w.heap.size 3 t z A n c) ∧ Hid (Below w.heap.size w wr)) (fun i _ => n - (intOf i).toNat)
    case atStart => exact ⟨0, rfl, by omega, Lib.hid rfl, HX, HB⟩
    case round =>
      obtain ⟨j, rfl, hj, HS, HXr, HBr⟩ := hrel
      rename World => wr
      obtain ⟨b0, b1, b2, b3⟩ := HXr.out.cells
      have HBw := Lib.hid (HB0.out.trans (HBr.out.mono HB0.out.size))
      by_cases hlt : j < n
      · obtain ⟨b, off, k', t', z', A', n', c', ks', rfl, hbB, hq, d0, d1, d2, d3⟩ := (HR.out.below HBw.out).at_ hlt
        have HQ := Lib.hid hq
        have hil : (j : Int) < (n : Int) := by omega
        have HCON := Lib.hid (HI.out _ (List.mem_of_getElem? hq) wr HBw.out)
        clear hq
        cases hv : Q.has tm ts (.mk k' t' z' A' n' c' ks') with
        | false =>
          have HF := Lib.hid (HFF.out _ (HS.out.stop HQ.out hv))
          rw [hv] at HCON
          unfold Q.val at HCON
          simp only at HCON
          clear hv
          go_wp2_with fail
          refine HCON.out.mono ?_
          rintro e w2 ⟨rfl, hb2⟩
          have HB2 := Lib.hid (HBr.out.trans (hb2.mono HBr.out.size))
          clear hb2
          go_wp2
          go_ret
          exact ⟨by first | rfl | (rw [HF.out]; rfl), HB2.out⟩
        | true =>
          have HF := Lib.hid (HS.out.step HQ.out hv)
          rw [hv] at HCON
          unfold Q.val at HCON
          simp only at HCON
          clear hv
          go_wp2_with fail
          refine HCON.out.mono ?_
          rintro e w2 ⟨rfl, hb2⟩
          have HX2 := Lib.hid (HXr.out.on hb2)
          have HB2 := Lib.hid (HBr.out.trans (hb2.mono HBr.out.size))
          clear hb2 d0 d1 d2 d3 b0 b1 b2 b3
          go_wp2
          go_roundw
          case rel => exact ⟨j + 1, by go_num, by omega, HF, HX2, HB2⟩
          case measure => simp [intOf]; omega
      · have HF := Lib.hid (HFF.out _ (HS.out.end_ (by have := HN.out; omega)))
        go_wp2
        go_ret
        exact ⟨by first | rfl | (rw [HF.out]; rfl), HBr.out⟩
  | 4, _, hK =>
    obtain rfl : K = 4 := hK.symm
    clear hK
    have HFF := Lib.hid (fun (b : Bool) (h : Q.hasOne tm ts ks = b) => (Q.has4 (tm := tm) (ts := ts) (t := t) (z := z) (A := A) (n := n) (c := c) (ks := ks)).trans h)
    go_enter Tryd.func67, Tryd.ntmps67
    go_wp2
    go_loopw [9] (fun i wr => ∃ j : Nat, i = .int .i64 j ∧ j ≤ n ∧ Hid (Q.OneFrom tm ts ks j) ∧ Hid (BoxIn wr w.heap.size 4 t z A n c) ∧ Hid (Below w.heap.size w wr)) (fun i _ => n - (intOf i).toNat)
    case atStart => exact ⟨0, rfl, by omega, Lib.hid rfl, HX, HB⟩
    case round =>
      obtain ⟨j, rfl, hj, HS, HXr, HBr⟩ := hrel
      rename World => wr
      obtain ⟨b0, b1, b2, b3⟩ := HXr.out.cells
      have HBw := Lib.hid (HB0.out.trans (HBr.out.mono HB0.out.size))
      by_cases hlt : j < n
      · obtain ⟨b, off, k', t', z', A', n', c', ks', rfl, hbB, hq, d0, d1, d2, d3⟩ := (HR.out.below HBw.out).at_ hlt
        have HQ := Lib.hid hq
        have hil : (j : Int) < (n : Int) := by omega
        have HCON := Lib.hid (HI.out _ (List.mem_of_getElem? hq) wr HBw.out)
        clear hq
        cases hv : Q.has tm ts (.mk k' t' z' A' n' c' ks') with
        | true =>
          have HF := Lib.hid (HFF.out _ (HS.out.stop HQ.out hv))
          rw [hv] at HCON
          unfold Q.val at HCON
          simp only at HCON
          clear hv
          go_wp2_with fail
          refine HCON.out.mono ?_
          rintro e w2 ⟨rfl, hb2⟩
          have HB2 := Lib.hid (HBr.out.trans (hb2.mono HBr.out.size))
          clear hb2
          go_wp2
          go_ret
          exact ⟨by first | rfl | (rw [HF.out]; rfl), HB2.out⟩
        | false =>
          have HF := Lib.hid (HS.out.step HQ.out hv)
          rw [hv] at HCON
          unfold Q.val at HCON
          simp only at HCON
          clear hv
          go_wp2_with fail
          refine HCON.out.mono ?_
          rintro e w2 ⟨rfl, hb2⟩
          have HX2 := Lib.hid (HXr.out.on hb2)
          have HB2 := Lib.hid (HBr.out.trans (hb2.mono HBr.out.size))
          clear hb2 d0 d1 d2 d3 b0 b1 b2 b3
          go_wp2
          go_roundw
          case rel => exact ⟨j + 1, by go_num, by omega, HF, HX2, HB2⟩
          case measure => simp [intOf]; omega
      · have HF := Lib.hid (HFF.out _ (HS.out.end_ (by have := HN.out; omega)))
        go_wp2
        go_ret
        exact ⟨by first | rfl | (rw [HF.out]; rfl), HBr.out⟩
  | 5, _, hK =>
    obtain rfl : K = 5 := hK.symm
    clear hK
    obtain ⟨b0, b1, b2, b3⟩ := HX.out.cells
    have HBw := Lib.hid (HB0.out.trans (HB.out.mono HB0.out.size))
    by_cases h1 : n = 1
    · subst h1
      obtain ⟨b, off, k', t', z', A', n', c', ks', rfl, hbB, hq, d0, d1, d2, d3⟩ := (HR.out.below HBw.out).at_ (show 0 < 1 by omega)
      have HCON := Lib.hid (HI.out _ (List.mem_of_getElem? hq) _ HBw.out)
      have HF := Lib.hid (show Q.has tm ts (.mk 5 t z (some ⟨b, off, none⟩) 1 c ks) = !Q.has tm ts (.mk k' t' z' A' n' c' ks') by
        have h1 : ks.length = 1 := HN.out.symm
        match ks, h1, hq with
        | [q], _, hq =>
          simp at hq
          subst hq
          rw [Q.has5, Q.hasOne1]; simp)
      rw [Nat.zero_mul, Nat.add_zero] at d0 d1 d2 d3
      unfold Q.val at HCON
      simp only at HCON
      clear hq
      go_enter Tryd.func67, Tryd.ntmps67
      go_wp2_with fail
      refine HCON.out.mono ?_
      rintro e w2 ⟨rfl, hb2⟩
      have HB2 := Lib.hid (HB.out.trans (hb2.mono HB.out.size))
      clear hb2
      go_wp2
      go_ret
      exact ⟨by rw [HF.out]; rfl, HB2.out⟩
    · have hq1 : ((n : Int) == 1) = false := by simp; omega
      have HF := Lib.hid (show Q.has tm ts (.mk 5 t z A n c ks) = false by
        have : ¬ ks.length = 1 := by have := HN.out; omega
        rw [Q.has5]; simp [this])
      clear h1
      go_enter Tryd.func67, Tryd.ntmps67
      go_wp2
      go_ret
      exact ⟨by rw [HF.out]; rfl, HB.out⟩
  | 6, _, hK =>
    obtain rfl : K = 6 := hK.symm
    clear hK
    go_enter Tryd.func67, Tryd.ntmps67
    go_wp2
    go_ret
    exact ⟨by rw [Q.has6]; rfl, HB.out⟩
  | 7, _, hK =>
    obtain rfl : K = 7 := hK.symm
    clear hK
    go_enter Tryd.func67, Tryd.ntmps67
    go_wp2
    go_ret
    exact ⟨by rw [Q.has7]; rfl, HB.out⟩
  | k + 8, hk, hK =>
    have q0 : (K == 0) = false := by simp; omega
    have q1 : (K == 1) = false := by simp; omega
    have q2 : (K == 2) = false := by simp; omega
    have q3 : (K == 3) = false := by simp; omega
    have q4 : (K == 4) = false := by simp; omega
    have q5 : (K == 5) = false := by simp; omega
    have q6 : (K == 6) = false := by simp; omega
    have q7 : (K == 7) = false := by simp; omega
    clear hK
    go_enter Tryd.func67, Tryd.ntmps67
    go_wp2
    go_ret
    exact ⟨by rw [Q.has8]; rfl, HB.out⟩
end Go.Proofs.YthhgelaifapmmaaDoor

namespace Go.Proofs.YthhgelaifapmmaaDoor
open Go.RowKit Mem
set_option linter.unusedVariables false
set_option maxRecDepth 100000

theorem cell_on {W W' : World} (hb : Below W.heap.size W W') {p : Addr} {v : Value} (h : W.cell? p = some v) : W'.cell? p = some v := (hb.cell (World.block_lt_of_cell? W _ h)).trans h
/-- a query in block g, an entry in block g + 1, and nothing below w0's end has turned -/
def Boxes (w0 : World) (g : Nat) (K : Int) (t : List UInt8) (z : Int) (A : Option Addr) (n c : Nat) (d : M.D) (W : World) : Prop :=
  W.cell? ⟨g, 0, none⟩ = some (.int .u8 K) ∧ W.cell? ⟨g, 1, none⟩ = some (.string ⟨t.toArray⟩) ∧ W.cell? ⟨g, 2, none⟩ = some (.int .i64 z) ∧ W.cell? ⟨g, 3, none⟩ = some (.slice A n c) ∧
  W.cell? ⟨g + 1, 0, none⟩ = some (.string ⟨d.id.toArray⟩) ∧ W.cell? ⟨g + 1, 1, none⟩ = some (.int .i64 d.time) ∧ W.cell? ⟨g + 1, 2, none⟩ = some (.string ⟨d.text.toArray⟩) ∧ Below w0.heap.size w0 W
section
variable {w0 W W' : World} {g : Nat} {K : Int} {t : List UInt8} {z : Int} {A : Option Addr} {n c : Nat} {d : M.D}
theorem Boxes.on (h : Boxes w0 g K t z A n c d W) (hb : Below W.heap.size W W') : Boxes w0 g K t z A n c d W' :=
  ⟨cell_on hb h.1, cell_on hb h.2.1, cell_on hb h.2.2.1, cell_on hb h.2.2.2.1, cell_on hb h.2.2.2.2.1, cell_on hb h.2.2.2.2.2.1, cell_on hb h.2.2.2.2.2.2.1, h.2.2.2.2.2.2.2.trans (hb.mono h.2.2.2.2.2.2.2.size)⟩
theorem Boxes.drewN (h : Boxes w0 g K t z A n c d W) (k : Nat) : Boxes w0 g K t z A n c d (W.drewN k) := ⟨h.1, h.2.1, h.2.2.1, h.2.2.2.1, h.2.2.2.2.1, h.2.2.2.2.2.1, h.2.2.2.2.2.2.1, bel_drewN h.2.2.2.2.2.2.2 k⟩
theorem Boxes.bel (h : Boxes w0 g K t z A n c d W) : Below w0.heap.size w0 W := h.2.2.2.2.2.2.2
end
theorem Boxes.new (w : World) (K : Int) (t : List UInt8) (z : Int) (A : Option Addr) (n c : Nat) (d : M.D) :
    Boxes w w.heap.size K t z A n c d ((w.alloc (.cells #[.int .u8 K, .string ⟨t.toArray⟩, .int .i64 z, .slice A n c] 39)).alloc (.cells #[.string ⟨d.id.toArray⟩, .int .i64 d.time, .string ⟨d.text.toArray⟩] 52)) := by
  obtain ⟨W, hW⟩ : ∃ W, W = w.alloc (.cells #[.int .u8 K, .string ⟨t.toArray⟩, .int .i64 z, .slice A n c] 39) := ⟨_, rfl⟩
  have hb : Below w.heap.size w W := by rw [hW]; exact (Below.refl _ _).alloc (Nat.le_refl _) _
  have hs : W.heap.size = w.heap.size + 1 := by rw [hW]; simp
  have h1 : BoxIn W w.heap.size K t z A n c := by rw [hW]; exact BoxIn.new w K t z A n c
  rw [← hW]
  have hb2 := (Below.refl W.heap.size W).alloc (Nat.le_refl _) (.cells #[.string ⟨d.id.toArray⟩, .int .i64 d.time, .string ⟨d.text.toArray⟩] 52)
  have c1 := (h1.on hb2).cells
  have c2 := (DocIn.new W d).cells
  rw [hs] at c2
  exact ⟨c1.1, c1.2.1, c1.2.2.1, c1.2.2.2, c2.1, c2.2.1, c2.2.2, hb.trans (hb2.mono hb.size)⟩

set_option maxHeartbeats 2000000 in
theorem ref_has_any (q : Q) (d : M.D) (w : World) (hT : Tabs w) (hs : d.text.length ≤ 1048576) (hq : Q.Ok w w.heap.size q) :
    Calls Tryd.prog 47 #[q.val, dval d] w (SaysB (q.has d.time (M.terms d.text)) w) := by
  have HQ := Lib.hid hq
  have HT := Lib.hid hT
  obtain ⟨k, t, z, A, n, c, ks⟩ := q
  obtain ⟨id, tm, text⟩ := d
  simp only at hs
  obtain ⟨K, hK⟩ : ∃ K : Int, (k : Int) = K := ⟨_, rfl⟩
  have HX := Lib.hid (Boxes.new w K t z A n c ⟨id, tm, text⟩)
  have HC1 := Lib.hid (fun (W : World) (h : Below w.heap.size w W) => show Calls Tryd.prog 50 #[.string ⟨text.toArray⟩] W (SaysS (M.terms text) W) from ref_terms_any ⟨text.toArray⟩ W (by show text.length ≤ _; omega) (by show text.length ≤ _; omega) (HT.out.below h))
  have HC2 := Lib.hid (fun (W : World) (h : Below w.heap.size w W) (A0 : Option Addr) (n0 c0 : Nat) (hr : RdV W W.heap.size A0 n0 c0 (strs (M.terms text))) => refHas_any W tm A0 n0 c0 (M.terms text) hr ((HQ.out.on h).more h.size) W (Below.refl _ _))
  unfold Q.val at HC2 ⊢
  unfold dval
  simp only at HC2 ⊢
  rw [hK] at HC2 ⊢
  clear hT hq HT HQ hs
  generalize Q.has tm (M.terms text) (.mk k t z A n c ks) = b at *
  clear hK
  go_enter Tryd.func47, Tryd.ntmps47
  go_wp2_with fail
  go_region_held3 (fun W => W.cell? ⟨w.heap.size, 0, none⟩ = some (.int .u8 K) ∧ W.cell? ⟨w.heap.size, 1, none⟩ = some (.string ⟨t.toArray⟩) ∧ W.cell? ⟨w.heap.size, 2, none⟩ = some (.int .i64 z) ∧ W.cell? ⟨w.heap.size, 3, none⟩ = some (.slice A n c) ∧
      W.cell? ⟨w.heap.size + 1, 0, none⟩ = some (.string ⟨id.toArray⟩) ∧ W.cell? ⟨w.heap.size + 1, 1, none⟩ = some (.int .i64 tm) ∧ W.cell? ⟨w.heap.size + 1, 2, none⟩ = some (.string ⟨text.toArray⟩) ∧ Below w.heap.size w W)
    (first | exact hHeld | exact HX.out | exact HX.out.drewN 1 | exact hX3 | exact hX2)
    (first
      | (go_at_call 50; refine (HC1.out _ (Boxes.bel (g := w.heap.size) (K := K) (t := t) (z := z) (A := A) (n := n) (c := c) (d := ⟨id, tm, text⟩) (by assumption))).mono ?_; rintro e w2 ⟨A2, c2, rfl, hr2, hb2⟩; have hX2 := Boxes.on (w0 := w) (g := w.heap.size) (K := K) (t := t) (z := z) (A := A) (n := n) (c := c) (d := ⟨id, tm, text⟩) (by assumption) hb2)
      | (go_at_call 67; refine (HC2.out _ hX2.bel _ _ _ hr2).mono ?_; rintro e w3 ⟨rfl, hb3⟩; have hX3 := hX2.on hb3))
  all_goals
    have HB3 := Lib.hid hX3.bel
    clear hX3 hX2
    go_wp2
    go_ret
    exact ⟨rfl, HB3.out⟩
end Go.Proofs.YthhgelaifapmmaaDoor

namespace Go.Proofs.YthhgelaifapmmaaDoor
open Go.RowKit Mem
set_option linter.unusedVariables false
set_option maxRecDepth 100000

theorem row1 {w : World} {g : Nat} {q : Q} {e : TypeId} {m : Nat × Nat} (h : w.heap[g]? = some (.cells q.cells.toArray e m)) : Q.Row w w.heap.size (some ⟨g, 0, none⟩) 1 1 [q] := by
  refine ⟨rfl, Nat.le_refl _, by omega, fun _ => ⟨g, 0, rfl, heapLt h, fun i hi j hj => ?_⟩⟩
  obtain rfl : i = 0 := by simp at hi; omega
  rw [cell_of_row w g _ _ _ _ h]
  simp
theorem row2 {w : World} {g : Nat} {p q : Q} {e : TypeId} {m : Nat × Nat} (h : w.heap[g]? = some (.cells (p.cells ++ q.cells).toArray e m)) : Q.Row w w.heap.size (some ⟨g, 0, none⟩) 2 2 [p, q] := by
  have hp : p.cells.length = 4 := by cases p; rfl
  refine ⟨rfl, Nat.le_refl _, by omega, fun _ => ⟨g, 0, rfl, heapLt h, fun i hi j hj => ?_⟩⟩
  rw [cell_of_row w g _ _ _ _ h]
  have hi' : i < 2 := by simpa using hi
  match i, hi' with
  | 0, _ =>
    simp only [Nat.zero_mul, Nat.zero_add, List.getElem?_toArray, List.getElem_cons_zero]
    rw [List.getElem?_append_left (by omega)]
  | 1, _ =>
    simp only [Nat.one_mul, Nat.zero_add, List.getElem?_toArray, List.getElem_cons_succ, List.getElem_cons_zero]
    rw [List.getElem?_append_right (by omega), hp, Nat.add_sub_cancel_left]
theorem ok1 {w : World} {g : Nat} {q : Q} {e : TypeId} {m : Nat × Nat} {k : Nat} (hk : k < 256) (h : w.heap[g]? = some (.cells q.cells.toArray e m)) (hq : Q.Ok w w.heap.size q) : Q.Ok w w.heap.size (.mk k [] 0 (some ⟨g, 0, none⟩) 1 1 [q]) :=
  .mk hk (by omega) (row1 h) (fun x hx => by simp at hx; subst hx; exact hq)
theorem ok2 {w : World} {g : Nat} {p q : Q} {e : TypeId} {m : Nat × Nat} {k : Nat} (hk : k < 256) (h : w.heap[g]? = some (.cells (p.cells ++ q.cells).toArray e m)) (hp : Q.Ok w w.heap.size p) (hq : Q.Ok w w.heap.size q) : Q.Ok w w.heap.size (.mk k [] 0 (some ⟨g, 0, none⟩) 2 2 [p, q]) :=
  .mk hk (by omega) (row2 h) (fun x hx => by
    simp at hx
    rcases hx with rfl | rfl
    · exact hp
    · exact hq)
section
variable {tm : Int} {ts : List (List UInt8)} {p q : Q} {g : Nat}
theorem has_not : Q.has tm ts (.mk 5 [] 0 (some ⟨g, 0, none⟩) 1 1 [q]) = !Q.has tm ts q := by rw [Q.has5, Q.hasOne1]; simp
theorem has_and : Q.has tm ts (.mk 3 [] 0 (some ⟨g, 0, none⟩) 2 2 [p, q]) = (Q.has tm ts p && Q.has tm ts q) := by rw [Q.has3]; simp [Q.hasAll]
theorem has_or : Q.has tm ts (.mk 4 [] 0 (some ⟨g, 0, none⟩) 2 2 [p, q]) = (Q.has tm ts p || Q.has tm ts q) := by rw [Q.has4]; simp [Q.hasOne]
end
/-- what 'not' makes: a query over a row of one in new memory -/
def NotOf (K : Int) (t : List UInt8) (z : Int) (A : Option Addr) (n c : Nat) (w : World) (e : Ending) (w' : World) : Prop :=
  ∃ g, e = .returned (.agg #[.int .u8 5, .string ⟨#[]⟩, .int .i64 0, .slice (some ⟨g, 0, none⟩) 1 1]) ∧ w'.heap[g]? = some (.cells #[.int .u8 K, .string ⟨t.toArray⟩, .int .i64 z, .slice A n c] 39 (0, 0)) ∧ Below w.heap.size w w' ∧ w.heap.size ≤ g

end Go.Proofs.YthhgelaifapmmaaDoor
