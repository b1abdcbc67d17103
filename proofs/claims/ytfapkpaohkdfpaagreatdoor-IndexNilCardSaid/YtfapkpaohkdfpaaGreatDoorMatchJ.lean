/-
  The document's has and Has; how great a query is (left, Great): by contracts.
-/
import Derived.Test.YtfapkpaohkdfpaaGreatDoorMatchG
namespace Go.Proofs.YtfapkpaohkdfpaaGreatDoor
open Go.RowKit Mem
set_option linter.unusedVariables false
set_option maxRecDepth 100000

def Says0 (w0 : World) (b : Bool) (e : Ending) (w' : World) : Prop := e = .returned (.bool b) ∧ Below w0.heap.size w0 w'
/-- a query that lies in block g, as a variable -/
def BoxIn (W : World) (g : Nat) (K : Int) (t : List UInt8) (z : Int) (A : Option Addr) (n c : Nat) : Prop := W.heap[g]? = some (.cells #[.int .u8 K, .string ⟨t.toArray⟩, .int .i64 z, .slice A n c] 25 (0, 0))
theorem BoxIn.new (w : World) (K : Int) (t : List UInt8) (z : Int) (A : Option Addr) (n c : Nat) : BoxIn (w.alloc (.cells #[.int .u8 K, .string ⟨t.toArray⟩, .int .i64 z, .slice A n c] 25)) w.heap.size K t z A n c := heap_alloc_new w _
theorem BoxIn.cells {W : World} {g : Nat} {K : Int} {t : List UInt8} {z : Int} {A : Option Addr} {n c : Nat} (h : BoxIn W g K t z A n c) : W.cell? ⟨g, 0, none⟩ = some (.int .u8 K) ∧ W.cell? ⟨g, 1, none⟩ = some (.string ⟨t.toArray⟩) ∧ W.cell? ⟨g, 2, none⟩ = some (.int .i64 z) ∧ W.cell? ⟨g, 3, none⟩ = some (.slice A n c) := ⟨cellAt 0 h, cellAt 1 h, cellAt 2 h, cellAt 3 h⟩
theorem BoxIn.on {W W' : World} {g : Nat} {K : Int} {t : List UInt8} {z : Int} {A : Option Addr} {n c : Nat} (h : BoxIn W g K t z A n c) (hb : Below W.heap.size W W') : BoxIn W' g K t z A n c := (hb.block g (heapLt h)).trans h

/-- so far none -/
def SoughtS (ts : List (List UInt8)) (t : List UInt8) (j : Nat) : Prop := decide (t ∈ ts) = decide (t ∈ ts.drop j)
theorem SoughtS.found {ts : List (List UInt8)} {t : List UInt8} {j : Nat} (h : SoughtS ts t j) (hj : j < ts.length) (e : ts[j] = t) : decide (t ∈ ts) = true := by rw [h, List.drop_eq_getElem_cons hj, e]; simp
theorem SoughtS.step {ts : List (List UInt8)} {t : List UInt8} {j : Nat} (h : SoughtS ts t j) (hj : j < ts.length) (e : ts[j] ≠ t) : SoughtS ts t (j + 1) := by
  unfold SoughtS at h ⊢
  rw [h, List.drop_eq_getElem_cons hj, decide_eq_decide, List.mem_cons]
  exact ⟨fun x => x.resolve_left (Ne.symm e), .inr⟩
theorem SoughtS.end_ {ts : List (List UInt8)} {t : List UInt8} {j : Nat} (h : SoughtS ts t j) (hj : ts.length ≤ j) : decide (t ∈ ts) = false := by rw [h, List.drop_eq_nil_of_le hj]; simp

/-- what 'left' tells: a smaller number -/
def LeftTold (w : World) (n : Int) (e : Ending) (w' : World) : Prop := ∃ m : Int, e = .returned (.int .i64 m) ∧ -1 ≤ m ∧ m < n ∧ Below w.heap.size w w'
def LeftC (w0 : World) (q : Q) : Prop := ∀ (w : World) (n : Int), 0 ≤ n → n ≤ 2000 → Below w0.heap.size w0 w → Calls Tryz.prog 25 #[q.val, .int .i64 n] w (LeftTold w n)
def SomeB (w : World) (e : Ending) (w' : World) : Prop := ∃ b : Bool, e = .returned (.bool b) ∧ Below w.heap.size w w'

set_option maxHeartbeats 2000000 in
theorem left_any (w0 : World) {q : Q} (hq : Q.Ok w0 w0.heap.size q) : LeftC w0 q := by
  induction hq with
  | @mk k t z A n c ks h1 h2 h3 h4 ih =>
  intro w most hm0 hm1 hb
  have HR := Lib.hid h3
  have HI := Lib.hid ih
  have HN := Lib.hid h3.1
  have hc := h3.2.1
  have hcm := h3.2.2.1
  unfold Q.val
  simp only
  obtain ⟨K, hK⟩ : ∃ K : Int, (k : Int) = K := ⟨_, rfl⟩
  rw [hK]
  have HX := Lib.hid (BoxIn.new w K t z A n c)
  have HB0 := Lib.hid hb
  have HB := Lib.hid ((Below.refl w.heap.size w).alloc (Nat.le_refl _) (.cells #[.int .u8 K, .string ⟨t.toArray⟩, .int .i64 z, .slice A n c] 25))
  clear hK h3 h4 ih hb
  go_enter Tryz.func25, Tryz.ntmps25
  go_wp2
  go_loopw [1, 5] (fun p i wr => ∃ (m : Int) (j : Nat), p = .int .i64 m ∧ i = .int .i64 j ∧ j ≤ n ∧ -1 ≤ m ∧ m < most ∧ Hid (BoxIn wr w.heap.size K t z A n c) ∧ Hid (Below w.heap.size w wr)) (fun _ i _ => n - (intOf i).toNat)
  case atStart => exact ⟨most - 1, 0, by go_num, rfl, by omega, by omega, by omega, HX, HB⟩
  case round =>
    obtain ⟨m, j, rfl, rfl, hj, hm2, hm3, HXr, HBr⟩ := hrel
    rename World => wr
    obtain ⟨b0, b1, b2, b3⟩ := HXr.out.cells
    have HBw := Lib.hid (HB0.out.trans (HBr.out.mono HB0.out.size))
    by_cases hlt : j < n
    · have hq1 : decide ((j : Int) < (n : Int)) = true := by simp; omega
      by_cases hm4 : 0 ≤ m
      · obtain ⟨b, off, k', t', z', A', n', c', ks', rfl, hbB, hq, c0, c1, c2, c3⟩ := (HR.out.below HBw.out).at_ hlt
        have HCON := Lib.hid (HI.out _ (List.mem_of_getElem? hq) wr m hm4 (by omega) HBw.out)
        unfold Q.val at HCON
        simp only at HCON
        clear hq
        go_wp2_with fail
        refine HCON.out.mono ?_
        rintro e w2 ⟨m', rfl, h5, h6, h7⟩
        have HX2 := Lib.hid (HXr.out.on h7)
        have HB2 := Lib.hid (HBr.out.trans (h7.mono HBr.out.size))
        clear h7 c0 c1 c2 c3 b0 b1 b2 b3
        go_wp2
        go_roundw
        case rel => exact ⟨m', j + 1, rfl, by go_num, by omega, by omega, by omega, HX2, HB2⟩
        case measure => simp [intOf]; omega
      · have hq2 : decide (0 ≤ m) = false := by simpa using hm4
        go_wp2
        go_ret
        exact ⟨m, rfl, hm2, hm3, HBr.out⟩
    · have hq1 : decide ((j : Int) < (n : Int)) = false := by simp; omega
      go_wp2
      go_ret
      exact ⟨m, rfl, hm2, hm3, HBr.out⟩

set_option maxHeartbeats 2000000 in
theorem great_any (q : Q) (w : World) (hq : Q.Ok w w.heap.size q) : Calls Tryz.prog 9 #[q.val, .int .i64 2000] w (SomeB w) := by
  have HC := Lib.hid (left_any w hq)
  obtain ⟨k, t, z, A, n, c, ks⟩ := q
  obtain ⟨K, hK⟩ : ∃ K : Int, (k : Int) = K := ⟨_, rfl⟩
  have HB := Lib.hid ((Below.refl w.heap.size w).alloc (Nat.le_refl _) (.cells #[.int .u8 K, .string ⟨t.toArray⟩, .int .i64 z, .slice A n c] 25))
  have HC2 := Lib.hid (HC.out _ 2000 (by omega) (by omega) HB.out)
  unfold Q.val at HC2 ⊢
  simp only at HC2 ⊢
  rw [hK] at HC2 ⊢
  clear hK hq HC
  go_enter Tryz.func9, Tryz.ntmps9
  go_wp2_with fail
  refine HC2.out.mono ?_
  rintro e w2 ⟨m, rfl, _, _, hb2⟩
  have HB2 := Lib.hid (HB.out.trans (hb2.mono HB.out.size))
  clear hb2
  go_wp2
  go_ret
  exact ⟨_, rfl, HB2.out⟩

/-- the contract of the document's 'has' at one query -/
def RefHas (w0 : World) (tm : Int) (A0 : Option Addr) (n0 c0 : Nat) (ts : List (List UInt8)) (q : Q) : Prop := ∀ w : World, Below w0.heap.size w0 w → Calls Tryz.prog 65 #[q.val, .int .i64 tm, .slice A0 n0 c0] w (SaysB (q.has tm ts) w)

set_option maxHeartbeats 4000000 in
theorem refHas_any (w0 : World) (tm : Int) (A0 : Option Addr) (n0 c0 : Nat) (ts : List (List UInt8)) (hts : RdV w0 w0.heap.size A0 n0 c0 (strs ts)) {q : Q} (hq : Q.Ok w0 w0.heap.size q) : RefHas w0 tm A0 n0 c0 ts q := by
  induction hq with
  | @mk k t z A n c ks h1 h2 h3 h4 ih =>
  intro w hb
  have HTS := Lib.hid hts
  have HNT := Lib.hid (show n0 = ts.length by have := hts.1; simpa using this)
  have hc0 := hts.2.1
  have hm0 := hts.max
  have HR := Lib.hid h3
  have HI := Lib.hid ih
  have HN := Lib.hid h3.1
  have hc := h3.2.1
  have hm := h3.2.2.1
  unfold Q.val
  simp only
  obtain ⟨K, hK⟩ : ∃ K : Int, (k : Int) = K := ⟨_, rfl⟩
  rw [hK]
  have HX := Lib.hid (BoxIn.new w K t z A n c)
  have HB0 := Lib.hid hb
  have HB := Lib.hid ((Below.refl w.heap.size w).alloc (Nat.le_refl _) (.cells #[.int .u8 K, .string ⟨t.toArray⟩, .int .i64 z, .slice A n c] 25))
  have HTS1 := Lib.hid (hts.below (hb.alloc hb.size (.cells #[.int .u8 K, .string ⟨t.toArray⟩, .int .i64 z, .slice A n c] 25)))
  clear hts h3 h4 ih hb
  match k, h1, hK with
  | 0, _, hK =>
    obtain rfl : K = 0 := hK.symm
    clear hK
    go_enter Tryz.func65, Tryz.ntmps65
    go_wp2
    go_ret
    exact ⟨by rw [Q.has0]; rfl, HB.out⟩
  | 1, _, hK =>
    obtain rfl : K = 1 := hK.symm
    clear hK
    have HFF := Lib.hid (fun (b : Bool) (h : decide (t ∈ ts) = b) => (Q.has1 (tm := tm) (ts := ts) (t := t) (z := z) (A := A) (n := n) (c := c) (ks := ks)).trans h)
    go_enter Tryz.func65, Tryz.ntmps65
    go_wp2
    go_loopw [7] (fun i wr => ∃ j : Nat, i = .int .i64 j ∧ j ≤ n0 ∧ Hid (SoughtS ts t j) ∧ Hid (∃ x, wr = (w.alloc (.cells #[.int .u8 1, .string ⟨t.toArray⟩, .int .i64 z, .slice A n c] 25)).drewN x)) (fun i _ => n0 - (intOf i).toNat)
    case atStart => exact ⟨0, rfl, by omega, Lib.hid rfl, Lib.hid ⟨0, rfl⟩⟩
    case round =>
      obtain ⟨j, rfl, hj, HS, HW⟩ := hrel
      obtain ⟨x0, rfl⟩ := HW.out
      by_cases hlt : j < n0
      · have hix : j < ts.length := by rw [← HNT.out]; exact hlt
        obtain ⟨b, off, rfl, hb0, q⟩ := HTS1.out.at_ hlt
        rw [strs_at hix] at q
        have hil : (j : Int) < (n0 : Int) := by omega
        by_cases he : ts[j] = t
        · have HF := Lib.hid (HFF.out _ (HS.out.found hix he))
          have hq2 : (ts[j] == t) = true := by rw [beq_str]; simpa using he
          clear he
          generalize ts[j] = y at *
          go_wp2_with fail
          go_quiet (fail)
          go_wp2
          go_ret
          exact ⟨by first | rfl | (rw [HF.out]; rfl), bel_drewN (bel_drewN HB.out _) _⟩
        · have HF := Lib.hid (HS.out.step hix he)
          have hq2 : (ts[j] == t) = false := by rw [beq_str]; simpa using he
          clear he
          generalize ts[j] = y at *
          go_wp2_with fail
          go_quiet (fail)
          go_wp2
          go_roundw
          case rel => exact ⟨j + 1, by go_num, by omega, HF, Lib.hid ⟨_, rfl⟩⟩
          case measure => simp [intOf]; omega
      · have HF := Lib.hid (HFF.out _ (HS.out.end_ (by rw [← HNT.out]; omega)))
        go_wp2
        go_ret
        exact ⟨by first | rfl | (rw [HF.out]; rfl), bel_drewN HB.out _⟩
  | 2, _, hK =>
    obtain rfl : K = 2 := hK.symm
    clear hK
    have HFF := Lib.hid (fun (b : Bool) (h : decide (t ∈ ts) = b) => (Q.has2 (tm := tm) (ts := ts) (t := t) (z := z) (A := A) (n := n) (c := c) (ks := ks)).trans h)
    go_enter Tryz.func65, Tryz.ntmps65
    go_wp2
    go_loopw [7] (fun i wr => ∃ j : Nat, i = .int .i64 j ∧ j ≤ n0 ∧ Hid (SoughtS ts t j) ∧ Hid (∃ x, wr = (w.alloc (.cells #[.int .u8 2, .string ⟨t.toArray⟩, .int .i64 z, .slice A n c] 25)).drewN x)) (fun i _ => n0 - (intOf i).toNat)
    case atStart => exact ⟨0, rfl, by omega, Lib.hid rfl, Lib.hid ⟨0, rfl⟩⟩
    case round =>
      obtain ⟨j, rfl, hj, HS, HW⟩ := hrel
      obtain ⟨x0, rfl⟩ := HW.out
      by_cases hlt : j < n0
      · have hix : j < ts.length := by rw [← HNT.out]; exact hlt
        obtain ⟨b, off, rfl, hb0, q⟩ := HTS1.out.at_ hlt
        rw [strs_at hix] at q
        have hil : (j : Int) < (n0 : Int) := by omega
        by_cases he : ts[j] = t
        · have HF := Lib.hid (HFF.out _ (HS.out.found hix he))
          have hq2 : (ts[j] == t) = true := by rw [beq_str]; simpa using he
          clear he
          generalize ts[j] = y at *
          go_wp2_with fail
          go_quiet (fail)
          go_wp2
          go_ret
          exact ⟨by first | rfl | (rw [HF.out]; rfl), bel_drewN (bel_drewN HB.out _) _⟩
        · have HF := Lib.hid (HS.out.step hix he)
          have hq2 : (ts[j] == t) = false := by rw [beq_str]; simpa using he
          clear he
          generalize ts[j] = y at *
          go_wp2_with fail
          go_quiet (fail)
          go_wp2
          go_roundw
          case rel => exact ⟨j + 1, by go_num, by omega, HF, Lib.hid ⟨_, rfl⟩⟩
          case measure => simp [intOf]; omega
      · have HF := Lib.hid (HFF.out _ (HS.out.end_ (by rw [← HNT.out]; omega)))
        go_wp2
        go_ret
        exact ⟨by first | rfl | (rw [HF.out]; rfl), bel_drewN HB.out _⟩
  | 3, _, hK =>
    obtain rfl : K = 3 := hK.symm
    clear hK
    have HFF := Lib.hid (fun (b : Bool) (h : Q.hasAll tm ts ks = b) => (Q.has3 (tm := tm) (ts := ts) (t := t) (z := z) (A := A) (n := n) (c := c) (ks := ks)).trans h)
    go_enter Tryz.func65, Tryz.ntmps65
    go_wp2
    go_loopw [8] (fun i wr => ∃ j : Nat, i = .int .i64 j ∧ j ≤ n ∧ Hid (Q.AllFrom tm ts ks j) ∧ Hid (BoxIn wr w.heap.size 3 t z A n c) ∧ Hid (Below w.heap.size w wr)) (fun i _ => n - (intOf i).toNat)
    case atStart => exact ⟨0, rfl, by omega, Lib.hid rfl, HX, HB⟩
    case round =>
      obtain ⟨j, rfl, hj, HS, HXr, HBr⟩ := hrel
      rename World => wr
      obtain ⟨b0, b1, b2, b3⟩ := HXr.out.cells
      have HBw := Lib.hid (HB0.out.trans (HBr.out.mono HB0.out.size))
      by_cases hlt : j < n
      · obtain ⟨b, off, k', t', z', A', n', c', ks', rfl, hbB, hq, d0, d1, d2, d3⟩ := (HR.out.below HBw.out).at_ hlt
        have HQ := Lib.hid hq
        have hil : (j : Int) < (n : Int) := by omega
        have HCON := Lib.hid (HI.out _ (List.mem_of_getElem? hq) wr HBw.out)
        clear hq
        cases hv : Q.has tm ts (.mk k' t' z' A' n' c' ks') with
        | false =>
          have HF := Lib.hid (HFF.out _ (HS.out.stop HQ.out hv))
          rw [hv] at HCON
          unfold Q.val at HCON
          simp only at HCON
          clear hv
          go_wp2_with fail
          refine HCON.out.mono ?_
          rintro e w2 ⟨rfl, hb2⟩
          have HB2 := Lib.hid (HBr.out.trans (hb2.mono HBr.out.size))
          clear hb2
          go_wp2
          go_ret
          exact ⟨by first | rfl | (rw [HF.out]; rfl), HB2.out⟩
        | true =>
          have HF := Lib.hid (HS.out.step HQ.out hv)
          rw [hv] at HCON
          unfold Q.val at HCON
          simp only at HCON
          clear hv
          go_wp2_with fail
          refine HCON.out.mono ?_
          rintro e w2 ⟨rfl, hb2⟩
          have HX2 := Lib.hid (HXr.out.on hb2)
          have HB2 := Lib.hid (HBr.out.trans (hb2.mono HBr.out.size))
          clear hb2 d0 d1 d2 d3 b0 b1 b2 b3
          go_wp2
          go_roundw
          case rel => exact ⟨j + 1, by go_num, by omega, HF, HX2, HB2⟩
          case measure => simp [intOf]; omega
      · have HF := Lib.hid (HFF.out _ (HS.out.end_ (by have := HN.out; omega)))
        go_wp2
        go_ret
        exact ⟨by first | rfl | (rw [HF.out]; rfl), HBr.out⟩
  | 4, _, hK =>
    obtain rfl : K = 4 := hK.symm
    clear hK
    have HFF := Lib.hid (fun (b : Bool) (h : Q.hasOne tm ts ks = b) => (Q.has4 (tm := tm) (ts := ts) (t := t) (z := z) (A := A) (n := n) (c := c) (ks := ks)).trans h)
    go_enter Tryz.func65, Tryz.ntmps65
    go_wp2
    go_loopw [9] (fun i wr => ∃ j : Nat, i = .int .i64 j ∧ j ≤ n ∧ Hid (Q.OneFrom tm ts ks j) ∧ Hid (BoxIn wr w.heap.size 4 t z A n c) ∧ Hid (Below w.heap.size w wr)) (fun i _ => n - (intOf i).toNat)
    case atStart => exact ⟨0, rfl, by omega, Lib.hid rfl, HX, HB⟩
    case round =>
      obtain ⟨j, rfl, hj, HS, HXr, HBr⟩ := hrel
      rename World => wr
      obtain ⟨b0, b1, b2, b3⟩ := HXr.out.cells
      have HBw := Lib.hid (HB0.out.trans (HBr.out.mono HB0.out.size))
      by_cases hlt : j < n
      · obtain ⟨b, off, k', t', z', A', n', c', ks', rfl, hbB, hq, d0, d1, d2, d3⟩ := (HR.out.below HBw.out).at_ hlt
        have HQ := Lib.hid hq
        have hil : (j : Int) < (n : Int) := by omega
        have HCON := Lib.hid (HI.out _ (List.mem_of_getElem? hq) wr HBw.out)
        clear hq
        cases hv : Q.has tm ts (.mk k' t' z' A' n' c' ks') with
        | true =>
          have HF := Lib.hid (HFF.out _ (HS.out.stop HQ.out hv))
          rw [hv] at HCON
          unfold Q.val at HCON
          simp only at HCON
          clear hv
          go_wp2_with fail
          refine HCON.out.mono ?_
          rintro e w2 ⟨rfl, hb2⟩
          have HB2 := Lib.hid (HBr.out.trans (hb2.mono HBr.out.size))
          clear hb2
          go_wp2
          go_ret
          exact ⟨by first | rfl | (rw [HF.out]; rfl), HB2.out⟩
        | false =>
          have HF := Lib.hid (HS.out.step HQ.out hv)
          rw [hv] at HCON
          unfold Q.val at HCON
          simp only at HCON
          clear hv
          go_wp2_with fail
          refine HCON.out.mono ?_
          rintro e w2 ⟨rfl, hb2⟩
          have HX2 := Lib.hid (HXr.out.on hb2)
          have HB2 := Lib.hid (HBr.out.trans (hb2.mono HBr.out.size))
          clear hb2 d0 d1 d2 d3 b0 b1 b2 b3
          go_wp2
          go_roundw
          case rel => exact ⟨j + 1, by go_num, by omega, HF, HX2, HB2⟩
          case measure => simp [intOf]; omega
      · have HF := Lib.hid (HFF.out _ (HS.out.end_ (by have := HN.out; omega)))
        go_wp2
        go_ret
        exact ⟨by first | rfl | (rw [HF.out]; rfl), HBr.out⟩
  | 5, _, hK =>
    obtain rfl : K = 5 := hK.symm
    clear hK
    obtain ⟨b0, b1, b2, b3⟩ := HX.out.cells
    have HBw := Lib.hid (HB0.out.trans (HB.out.mono HB0.out.size))
    by_cases h1 : n = 1
    · subst h1
      obtain ⟨b, off, k', t', z', A', n', c', ks', rfl, hbB, hq, d0, d1, d2, d3⟩ := (HR.out.below HBw.out).at_ (show 0 < 1 by omega)
      have HCON := Lib.hid (HI.out _ (List.mem_of_getElem? hq) _ HBw.out)
      have HF := Lib.hid (show Q.has tm ts (.mk 5 t z (some ⟨b, off, none⟩) 1 c ks) = !Q.has tm ts (.mk k' t' z' A' n' c' ks') by
        have h1 : ks.length = 1 := HN.out.symm
        match ks, h1, hq with
        | [q], _, hq =>
          simp at hq
          subst hq
          rw [Q.has5, Q.hasOne1]; simp)
      rw [Nat.zero_mul, Nat.add_zero] at d0 d1 d2 d3
      unfold Q.val at HCON
      simp only at HCON
      clear hq
      go_enter Tryz.func65, Tryz.ntmps65
      go_wp2_with fail
      refine HCON.out.mono ?_
      rintro e w2 ⟨rfl, hb2⟩
      have HB2 := Lib.hid (HB.out.trans (hb2.mono HB.out.size))
      clear hb2
      go_wp2
      go_ret
      exact ⟨by rw [HF.out]; rfl, HB2.out⟩
    · have hq1 : ((n : Int) == 1) = false := by simp; omega
      have HF := Lib.hid (show Q.has tm ts (.mk 5 t z A n c ks) = false by
        have : ¬ ks.length = 1 := by have := HN.out; omega
        rw [Q.has5]; simp [this])
      clear h1
      go_enter Tryz.func65, Tryz.ntmps65
      go_wp2
      go_ret
      exact ⟨by rw [HF.out]; rfl, HB.out⟩
  | 6, _, hK =>
    obtain rfl : K = 6 := hK.symm
    clear hK
    go_enter Tryz.func65, Tryz.ntmps65
    go_wp2
    go_ret
    exact ⟨by rw [Q.has6]; rfl, HB.out⟩
  | 7, _, hK =>
    obtain rfl : K = 7 := hK.symm
    clear hK
    go_enter Tryz.func65, Tryz.ntmps65
    go_wp2
    go_ret
    exact ⟨by rw [Q.has7]; rfl, HB.out⟩
  | k + 8, hk, hK =>
    have q0 : (K == 0) = false := by simp; omega
    have q1 : (K == 1) = false := by simp; omega
    have q2 : (K == 2) = false := by simp; omega
    have q3 : (K == 3) = false := by simp; omega
    have q4 : (K == 4) = false := by simp; omega
    have q5 : (K == 5) = false := by simp; omega
    have q6 : (K == 6) = false := by simp; omega
    have q7 : (K == 7) = false := by simp; omega
    clear hK
    go_enter Tryz.func65, Tryz.ntmps65
    go_wp2
    go_ret
    exact ⟨by rw [Q.has8]; rfl, HB.out⟩
end Go.Proofs.YtfapkpaohkdfpaaGreatDoor
