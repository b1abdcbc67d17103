/-
  Does the entry that is asked answer a query: (*asked).answers, answersAll, answersOne, by contracts.
-/
import Derived.Test.YtfapkpaohkdfpaaGreatDoorMatchE
namespace Go.Proofs.YtfapkpaohkdfpaaGreatDoor
open Go.RowKit Mem
set_option linter.unusedVariables false
set_option maxRecDepth 100000

/-- the contract of 'answers' at one query -/
def Answers (w0 : World) (d : M.D) (q : Q) : Prop := ∀ (g : Nat) (w : World), w0.heap.size ≤ g → Below w0.heap.size w0 w → AskAt w g d →
  Calls Tryz.prog 82 #[.pointer (some ⟨g, 0, none⟩), q.val] w (Told w0 g d (q.has d.time (M.terms d.text)))

set_option maxHeartbeats 2000000 in
theorem answersAll_any (w0 : World) (d : M.D) (A : Option Addr) (n c : Nat) (ks : List Q) (hr : Q.Row w0 w0.heap.size A n c ks) (ih : ∀ q ∈ ks, Answers w0 d q) (g : Nat) (w : World) (hg : w0.heap.size ≤ g) (hb : Below w0.heap.size w0 w) (ha : AskAt w g d) :
    Calls Tryz.prog 111 #[.pointer (some ⟨g, 0, none⟩), .slice A n c] w (Told w0 g d (Q.hasAll d.time (M.terms d.text) ks)) := by
  have HR := Lib.hid hr
  have HI := Lib.hid ih
  have hc := hr.2.1
  have hm := hr.2.2.1
  have HN := Lib.hid hr.1
  have HB := Lib.hid hb
  have HA := Lib.hid ha
  clear hr ih hb ha
  go_enter Tryz.func111, Tryz.ntmps111
  go_wp2
  go_loopw [9] (fun i wr => ∃ j : Nat, i = .int .i64 j ∧ j ≤ n ∧ Hid (Q.AllFrom d.time (M.terms d.text) ks j) ∧ Hid (AskAt wr g d) ∧ Hid (Below w0.heap.size w0 wr)) (fun i _ => n - (intOf i).toNat)
  case atStart => exact ⟨0, rfl, by omega, Lib.hid rfl, HA, HB⟩
  case round =>
    obtain ⟨j, rfl, hj, HS, HAr, HBr⟩ := hrel
    rename World => wr
    by_cases hlt : j < n
    · obtain ⟨b, off, k, t, z, A', n', c', ks', rfl, hbB, hq, c0, c1, c2, c3⟩ := (HR.out.below HBr.out).at_ hlt
      have HQ := Lib.hid hq
      have hil : (j : Int) < (n : Int) := by omega
      have HCON := Lib.hid (HI.out _ (List.mem_of_getElem? hq) g (wr.alloc (.cells #[.int .u8 (k : Int), .string ⟨t.toArray⟩, .int .i64 z, .slice A' n' c'] 25)) hg (HBr.out.alloc HBr.out.size _) (HAr.out.alloc _))
      clear hq
      cases hv : Q.has d.time (M.terms d.text) (.mk k t z A' n' c' ks') with
      | false =>
        have HF := Lib.hid (HS.out.stop HQ.out hv)
        rw [hv] at HCON
        clear hv
        go_wp2_with fail
        refine HCON.out.mono ?_
        rintro e w2 ⟨rfl, ha2, hb2⟩
        have HA2 := Lib.hid ha2
        have HB2 := Lib.hid hb2
        clear ha2 hb2
        go_wp2
        go_ret
        exact ⟨by first | rfl | (rw [HF.out]; rfl), HA2.out, HB2.out⟩
      | true =>
        have HF := Lib.hid (HS.out.step HQ.out hv)
        rw [hv] at HCON
        clear hv
        go_wp2_with fail
        refine HCON.out.mono ?_
        rintro e w2 ⟨rfl, ha2, hb2⟩
        have HA2 := Lib.hid ha2
        have HB2 := Lib.hid hb2
        clear ha2 hb2
        go_wp2
        go_roundw
        case rel => exact ⟨j + 1, by go_num, by omega, HF, HA2, HB2⟩
        case measure => simp [intOf]; omega
    · have HF := Lib.hid (HS.out.end_ (by have := HN.out; omega))
      go_wp2
      go_ret
      exact ⟨by first | rfl | (rw [HF.out]; rfl), HAr.out, HBr.out⟩

set_option maxHeartbeats 2000000 in
theorem answersOne_any (w0 : World) (d : M.D) (A : Option Addr) (n c : Nat) (ks : List Q) (hr : Q.Row w0 w0.heap.size A n c ks) (ih : ∀ q ∈ ks, Answers w0 d q) (g : Nat) (w : World) (hg : w0.heap.size ≤ g) (hb : Below w0.heap.size w0 w) (ha : AskAt w g d) :
    Calls Tryz.prog 112 #[.pointer (some ⟨g, 0, none⟩), .slice A n c] w (Told w0 g d (Q.hasOne d.time (M.terms d.text) ks)) := by
  have HR := Lib.hid hr
  have HI := Lib.hid ih
  have hc := hr.2.1
  have hm := hr.2.2.1
  have HN := Lib.hid hr.1
  have HB := Lib.hid hb
  have HA := Lib.hid ha
  clear hr ih hb ha
  go_enter Tryz.func112, Tryz.ntmps112
  go_wp2
  go_loopw [9] (fun i wr => ∃ j : Nat, i = .int .i64 j ∧ j ≤ n ∧ Hid (Q.OneFrom d.time (M.terms d.text) ks j) ∧ Hid (AskAt wr g d) ∧ Hid (Below w0.heap.size w0 wr)) (fun i _ => n - (intOf i).toNat)
  case atStart => exact ⟨0, rfl, by omega, Lib.hid rfl, HA, HB⟩
  case round =>
    obtain ⟨j, rfl, hj, HS, HAr, HBr⟩ := hrel
    rename World => wr
    by_cases hlt : j < n
    · obtain ⟨b, off, k, t, z, A', n', c', ks', rfl, hbB, hq, c0, c1, c2, c3⟩ := (HR.out.below HBr.out).at_ hlt
      have HQ := Lib.hid hq
      have hil : (j : Int) < (n : Int) := by omega
      have HCON := Lib.hid (HI.out _ (List.mem_of_getElem? hq) g (wr.alloc (.cells #[.int .u8 (k : Int), .string ⟨t.toArray⟩, .int .i64 z, .slice A' n' c'] 25)) hg (HBr.out.alloc HBr.out.size _) (HAr.out.alloc _))
      clear hq
      cases hv : Q.has d.time (M.terms d.text) (.mk k t z A' n' c' ks') with
      | true =>
        have HF := Lib.hid (HS.out.stop HQ.out hv)
        rw [hv] at HCON
        clear hv
        go_wp2_with fail
        refine HCON.out.mono ?_
        rintro e w2 ⟨rfl, ha2, hb2⟩
        have HA2 := Lib.hid ha2
        have HB2 := Lib.hid hb2
        clear ha2 hb2
        go_wp2
        go_ret
        exact ⟨by first | rfl | (rw [HF.out]; rfl), HA2.out, HB2.out⟩
      | false =>
        have HF := Lib.hid (HS.out.step HQ.out hv)
        rw [hv] at HCON
        clear hv
        go_wp2_with fail
        refine HCON.out.mono ?_
        rintro e w2 ⟨rfl, ha2, hb2⟩
        have HA2 := Lib.hid ha2
        have HB2 := Lib.hid hb2
        clear ha2 hb2
        go_wp2
        go_roundw
        case rel => exact ⟨j + 1, by go_num, by omega, HF, HA2, HB2⟩
        case measure => simp [intOf]; omega
    · have HF := Lib.hid (HS.out.end_ (by have := HN.out; omega))
      go_wp2
      go_ret
      exact ⟨by first | rfl | (rw [HF.out]; rfl), HAr.out, HBr.out⟩

theorem kind_ne {k j : Nat} (h : k ≠ j) : ((k : Int) == (j : Int)) = false := by simp; omega

set_option maxHeartbeats 4000000 in
theorem answers_any (w0 : World) (d : M.D) (hT : Tabs w0) (hs : d.text.length ≤ 1073741824) {q : Q} (hq : Q.Ok w0 w0.heap.size q) : Answers w0 d q := by
  induction hq with
  | @mk k t z A n c ks h1 h2 h3 h4 ih =>
  intro g w hg hb ha
  have HT := Lib.hid hT
  have HR := Lib.hid h3
  have HI := Lib.hid ih
  have HN := Lib.hid h3.1
  have hc := h3.2.1
  have hm := h3.2.2.1
  obtain ⟨tk, A0, n0, c00, hh, hr⟩ := id ha
  have hgw := heapLt hh
  unfold Q.val
  simp only
  obtain ⟨K, hK⟩ : ∃ K : Int, (k : Int) = K := ⟨_, rfl⟩
  rw [hK]
  obtain ⟨o, ho⟩ : ∃ o, o = Obj.cells #[.int .u8 K, .string ⟨t.toArray⟩, .int .i64 z, .slice A n c] 25 := ⟨_, rfl⟩
  have hh1 := heapOld (o := o) hh
  have hgc : (w.alloc o).cell? ⟨g, 1, none⟩ = some (.int .i64 d.time) := cellAt 1 hh1
  have HB1 := Lib.hid (hb.alloc hb.size o)
  have HA1 := Lib.hid (ha.alloc o)
  have hne : g ≠ w.heap.size := by omega
  subst ho
  clear hT h3 h4 ih hb ha hh hr hh1
  match k, h1, hK with
  | 0, _, hK =>
    obtain rfl : K = 0 := hK.symm
    clear hK
    go_enter Tryz.func82, Tryz.ntmps82
    go_wp2
    go_ret
    exact ⟨by rw [Q.has0]; rfl, HA1.out, HB1.out⟩
  | 1, _, hK =>
    obtain rfl : K = 1 := hK.symm
    clear hK
    go_enter Tryz.func82, Tryz.ntmps82
    go_wp2_with fail
    refine (askHas_any w0 g d t _ HT.out hs hg HB1.out HA1.out).mono ?_
    rintro e w2 ⟨rfl, ha2, hb2⟩
    have HA2 := Lib.hid ha2
    have HB2 := Lib.hid hb2
    clear ha2 hb2
    go_wp2
    go_ret
    exact ⟨by rw [Q.has1]; rfl, HA2.out, HB2.out⟩
  | 2, _, hK =>
    obtain rfl : K = 2 := hK.symm
    clear hK
    go_enter Tryz.func82, Tryz.ntmps82
    go_wp2_with fail
    refine (askHas_any w0 g d t _ HT.out hs hg HB1.out HA1.out).mono ?_
    rintro e w2 ⟨rfl, ha2, hb2⟩
    have HA2 := Lib.hid ha2
    have HB2 := Lib.hid hb2
    clear ha2 hb2
    go_wp2
    go_ret
    exact ⟨by rw [Q.has2]; rfl, HA2.out, HB2.out⟩
  | 3, _, hK =>
    obtain rfl : K = 3 := hK.symm
    clear hK
    go_enter Tryz.func82, Tryz.ntmps82
    go_wp2_with fail
    refine (answersAll_any w0 d A n c ks HR.out HI.out g _ hg HB1.out HA1.out).mono ?_
    rintro e w2 ⟨rfl, ha2, hb2⟩
    have HA2 := Lib.hid ha2
    have HB2 := Lib.hid hb2
    clear ha2 hb2
    go_wp2
    go_ret
    exact ⟨by rw [Q.has3]; rfl, HA2.out, HB2.out⟩
  | 4, _, hK =>
    obtain rfl : K = 4 := hK.symm
    clear hK
    go_enter Tryz.func82, Tryz.ntmps82
    go_wp2_with fail
    refine (answersOne_any w0 d A n c ks HR.out HI.out g _ hg HB1.out HA1.out).mono ?_
    rintro e w2 ⟨rfl, ha2, hb2⟩
    have HA2 := Lib.hid ha2
    have HB2 := Lib.hid hb2
    clear ha2 hb2
    go_wp2
    go_ret
    exact ⟨by rw [Q.has4]; rfl, HA2.out, HB2.out⟩
  | 5, _, hK =>
    obtain rfl : K = 5 := hK.symm
    clear hK
    by_cases h1 : n = 1
    · subst h1
      obtain ⟨b, off, k', t', z', A', n', c', ks', rfl, hbB, hq, c0, c1, c2, c3⟩ := (HR.out.below HB1.out).at_ (show 0 < 1 by omega)
      have HCON := Lib.hid (HI.out _ (List.mem_of_getElem? hq) g _ hg HB1.out HA1.out)
      have HF := Lib.hid (show Q.has d.time (M.terms d.text) (.mk 5 t z (some ⟨b, off, none⟩) 1 c ks) = !Q.has d.time (M.terms d.text) (.mk k' t' z' A' n' c' ks') by
        have h1 : ks.length = 1 := HN.out.symm
        match ks, h1, hq with
        | [q], _, hq =>
          simp at hq
          subst hq
          rw [Q.has5, Q.hasOne1]; simp)
      rw [Nat.zero_mul, Nat.add_zero] at c0 c1 c2 c3
      clear hq
      go_enter Tryz.func82, Tryz.ntmps82
      go_wp2_with fail
      refine HCON.out.mono ?_
      rintro e w2 ⟨rfl, ha2, hb2⟩
      have HA2 := Lib.hid ha2
      have HB2 := Lib.hid hb2
      clear ha2 hb2
      go_wp2
      go_ret
      exact ⟨by rw [HF.out]; rfl, HA2.out, HB2.out⟩
    · have hq1 : ((n : Int) == 1) = false := by simp; omega
      have HF := Lib.hid (show Q.has d.time (M.terms d.text) (.mk 5 t z A n c ks) = false by
        have : ¬ ks.length = 1 := by have := HN.out; omega
        rw [Q.has5]; simp [this])
      clear h1
      go_enter Tryz.func82, Tryz.ntmps82
      go_wp2
      go_ret
      exact ⟨by rw [HF.out]; rfl, HA1.out, HB1.out⟩
  | 6, _, hK =>
    obtain rfl : K = 6 := hK.symm
    clear hK
    go_enter Tryz.func82, Tryz.ntmps82
    go_wp2_with fail
    go_quiet (fail)
    go_wp2
    go_ret
    exact ⟨by rw [Q.has6]; rfl, HA1.out, bel_drewN HB1.out _⟩
  | 7, _, hK =>
    obtain rfl : K = 7 := hK.symm
    clear hK
    go_enter Tryz.func82, Tryz.ntmps82
    go_wp2_with fail
    go_quiet (fail)
    go_wp2
    go_ret
    exact ⟨by rw [Q.has7]; rfl, HA1.out, bel_drewN HB1.out _⟩
  | k + 8, hk, hK =>
    have q0 : (K == 0) = false := by simp; omega
    have q1 : (K == 1) = false := by simp; omega
    have q2 : (K == 2) = false := by simp; omega
    have q3 : (K == 3) = false := by simp; omega
    have q4 : (K == 4) = false := by simp; omega
    have q5 : (K == 5) = false := by simp; omega
    have q6 : (K == 6) = false := by simp; omega
    have q7 : (K == 7) = false := by simp; omega
    clear hK
    go_enter Tryz.func82, Tryz.ntmps82
    go_wp2
    go_ret
    exact ⟨by rw [Q.has8]; rfl, HA1.out, HB1.out⟩

set_option maxHeartbeats 4000000 in
theorem answers_time (w0 : World) (d : M.D) (k : Nat) (t : List UInt8) (z : Int) (A : Option Addr) (n c : Nat) (ks : List Q) (hk : k = 6 ∨ k = 7) : Answers w0 d (.mk k t z A n c ks) := by
  intro g w hg hb ha
  obtain ⟨tk, A0, n0, c00, hh, hr⟩ := id ha
  have hgw := heapLt hh
  unfold Q.val
  simp only
  obtain ⟨K, hK⟩ : ∃ K : Int, (k : Int) = K := ⟨_, rfl⟩
  rw [hK]
  obtain ⟨o, ho⟩ : ∃ o, o = Obj.cells #[.int .u8 K, .string ⟨t.toArray⟩, .int .i64 z, .slice A n c] 25 := ⟨_, rfl⟩
  have hh1 := heapOld (o := o) hh
  have hgc : (w.alloc o).cell? ⟨g, 1, none⟩ = some (.int .i64 d.time) := cellAt 1 hh1
  have HB1 := Lib.hid (hb.alloc hb.size o)
  have HA1 := Lib.hid (ha.alloc o)
  have hne : g ≠ w.heap.size := by omega
  subst ho
  clear hb ha hh hr hh1
  rcases hk with rfl | rfl
  · obtain rfl : K = 6 := hK.symm
    clear hK
    go_enter Tryz.func82, Tryz.ntmps82
    go_wp2_with fail
    go_quiet (fail)
    go_wp2
    go_ret
    exact ⟨by rw [Q.has6]; rfl, HA1.out, bel_drewN HB1.out _⟩
  · obtain rfl : K = 7 := hK.symm
    clear hK
    go_enter Tryz.func82, Tryz.ntmps82
    go_wp2_with fail
    go_quiet (fail)
    go_wp2
    go_ret
    exact ⟨by rw [Q.has7]; rfl, HA1.out, bel_drewN HB1.out _⟩
end Go.Proofs.YtfapkpaohkdfpaaGreatDoor
