/-
  What the document's Scan and Same do, by contracts; the law WalScans.
-/
import Derived.Test.YtocclaehiifabaaWalG
import Derived.Test.YtocclaehiifabaaPackP
namespace Go.Proofs.Ytocclaehiifabaa
open Go.RowKit Mem FM
set_option linter.unusedVariables false
set_option maxRecDepth 100000

/-- a row of slices whose bytes lie below B; the row itself is new -/
def RecsIn (w : World) (base B : Nat) (v : Value) (rs : List Rec) : Prop :=
  w.ownsRow base 22 1 v rs.length (rs.map Rec.v) ∧ ∀ r ∈ rs, ∃ A n c, r.v = .slice A n c ∧ Rd w B A n c r.l
theorem RecsIn.below {w w' : World} {base B : Nat} {v : Value} {rs : List Rec} (h : RecsIn w base B v rs) (hb : Below w.heap.size w w') (hB : B ≤ w.heap.size) : RecsIn w' base B v rs :=
  ⟨row_turned (G := fun _ => False) h.1 (Turned.of_below hb) (fun _ _ h => h), fun r hr => by
    obtain ⟨A, n, c, hv, hrd⟩ := h.2 r hr
    exact ⟨A, n, c, hv, hrd.below (hb.mono hB)⟩⟩
theorem RecsIn.form {w : World} {base B : Nat} {v : Value} {rs : List Rec} (h : RecsIn w base B v rs) : ∃ A c, v = .slice A rs.length c ∧ rs.length ≤ c ∧ c ≤ 9223372036854775807 := by
  rcases h.1.2 with ⟨rfl, h0⟩ | ⟨g, cap, cur, rfl, _, _, h1, h2, _⟩
  · exact ⟨none, 0, by rw [h0], by omega, by omega⟩
  · exact ⟨_, cap, rfl, h1, by simpa only [maxLen] using h2⟩

def RScanned (B : Nat) (l : List UInt8) (w : World) (e : Ending) (w' : World) : Prop :=
  ∃ v rs, e = .returned (.tuple #[v, .int .i64 ((M.scan l).2 : Int)]) ∧ RecsIn w' w.heap.size B v rs ∧ recs rs = (M.scan l).1 ∧ Below w.heap.size w w'
def RScanInv (B : Nat) (l : List UInt8) (w : World) (k : Nat) (v : Value) (rs : List Rec) (wr : World) : Prop :=
  RecsIn wr w.heap.size B v rs ∧ Below w.heap.size w wr ∧ recs rs ++ (M.scanFrom l k).1 = (M.scan l).1 ∧ (M.scanFrom l k).2 = (M.scan l).2

set_option maxHeartbeats 1000000 in
theorem ref_scan_any (A : Option Addr) (n c B : Nat) (l : List UInt8) (w : World) (h : Rd w B A n c l) (hB : B ≤ w.heap.size) (hl : n ≤ 1073741824) :
    Calls Try.prog 10 #[.slice A n c] w (RScanned B l w) := by
  obtain ⟨i0, hi, hz0, hz1, hz2⟩ := info_parts Try.infoR
  have HI := Lib.hid hi; have HZ0 := Lib.hid hz0; have HZ1 := Lib.hid hz1; have HZ2 := Lib.hid hz2
  clear hi hz0 hz1 hz2
  have HN := Lib.hid h.len; have HR := Lib.hid h
  have hc := h.cap; have hcm := h.max
  clear h
  have HS0 := Lib.hid (show RScanInv B l w 0 (.slice none 0 0) [] w from ⟨⟨World.ownsRow_nil _ _ _ _, by simp⟩, Below.refl _ _, rfl, rfl⟩)
  go_enter Try.func10, Try.ntmps10
  go_wp2
  go_loopw [4, 5] (fun o p wr => ∃ (k m c2 : Nat) (A2 : Option Addr) (rs : List Rec), p = .int .i64 k ∧ o = .slice A2 m c2 ∧ k ≤ n ∧ m ≤ k ∧ Hid (rs.length = m) ∧ Hid (RScanInv B l w k (.slice A2 m c2) rs wr)) (fun _ p _ => n - (intOf p).toNat)
  case atStart => exact ⟨0, 0, 0, none, [], rfl, rfl, Nat.zero_le _, Nat.le_refl _, Lib.hid rfl, HS0⟩
  case round =>
    obtain ⟨k, m, c2, A2, rs, rfl, rfl, hk, hmk, HM, HV⟩ := hrel
    rename World => wr
    obtain ⟨hrec, hb, hs1, hs2⟩ := HV.out
    have hrf := ref_readFrame_in A n c B l (k : Int) wr (HR.out.below (hb.mono hB)) (Nat.le_trans hB hb.size) (by omega) (by omega) (by omega)
    have hbs : w.heap.size ≤ wr.heap.size := hb.size
    by_cases hok : (M.rdFrame l (k : Int)).2.2 = 0
    · obtain ⟨a1, a2, a3, a4⟩ := M.rdFrame_adv hok
      have hsf := M.scanFrom_ok hok
      rw [hsf] at hs1 hs2
      have HS1 := Lib.hid hs1; have HS2 := Lib.hid hs2; have HREC := Lib.hid hrec; have HB := Lib.hid hb
      have hln : l.length = n := HN.out.symm
      rw [hln] at a2
      generalize hrr : M.rdFrame l (k : Int) = rr at *
      obtain ⟨p, nx, er⟩ := rr
      simp only at hrf a1 a2 HS1 HS2 hok
      subst hok
      have HRF := Lib.hid hrf
      clear hrf hs1 hs2 hrec hb hsf hln a3 a4 hrr
      go_wp2_with fail
      refine HRF.out.mono ?_
      rintro e w1 ⟨A1, n1, c1, rfl, hrd1, hb1⟩
      have HROW1 := Lib.hid (HREC.out.below hb1 (Nat.le_trans hB hbs))
      have HRM := Lib.hid (show w1.ownsRow w.heap.size 22 1 (.slice A2 m c2) m (rs.map Rec.v) by have := HROW1.out.1; rwa [HM.out] at this)
      have HRD1 := Lib.hid hrd1
      have HB1 := Lib.hid (HB.out.trans (hb1.mono HB.out.size))
      have hw1 : wr.heap.size ≤ w1.heap.size := hb1.size
      clear hrd1 hb1
      go_wp2_with (at_builtin; go_must (refine wpList_append_lies _ rfl (.tmp 20) (.tmp 22) _ rfl w.heap.size 22 i0 _ 1 24 Try.underlying24 HI.out HZ0.out HZ1.out HZ2.out rfl (by omega) (.slice A2 m c2) m _ rfl (HRM.out.alloc _) ⟨w1.heap.size, 0, none⟩ 1 1 [.slice A1 n1 c1] rfl rfl (World.news_of_block (cs := #[.slice A1 n1 c1]) (t := 22) (fr := (0, 0)) (heap_alloc_new w1 _)) (by simp [Value.oneCell']) (by omega) (by simp only [maxLen]; omega) (by omega) (by have := HB1.out.size; simp; omega) (w1.heap.size + 1) (by simp) ?_))
      intro g9 cap9 w9 hown9 hgrow9 hat9 hlt9
      have hb9 : Below w.heap.size w w9 := (HB1.out.alloc HB1.out.size _).grown hgrow9 (by have := HB1.out.size; simp; omega) (fun k' hk' => (HRM.out.lt k' hk').1)
      have hb19 : Below w.heap.size w1 w9 := ((Below.refl _ w1).alloc HB1.out.size _).grown hgrow9 (by have := HB1.out.size; simp; omega) (fun k' hk' => (HRM.out.lt k' hk').1)
      have HV9 := Lib.hid (show RScanInv B l w nx (.slice (some ⟨g9, 0, none⟩) (m + 1) cap9) (rs ++ [⟨.slice A1 n1 c1, p⟩]) w9 from
        ⟨⟨by rw [List.length_append, List.map_append, HM.out]; exact hown9, fun r hr => by
            rcases List.mem_append.1 hr with hr | hr
            · obtain ⟨A', n', c', hv', hrd'⟩ := HROW1.out.2 r hr
              exact ⟨A', n', c', hv', hrd'.below (hb19.mono hB)⟩
            · simp only [List.mem_singleton] at hr
              subst hr
              exact ⟨A1, n1, c1, rfl, HRD1.out.below (hb19.mono hB)⟩⟩, hb9, by rw [← HS1.out]; simp [recs], HS2.out⟩)
      have HM9 := Lib.hid (show (rs ++ [(⟨.slice A1 n1 c1, p⟩ : Rec)]).length = m + 1 by rw [List.length_append, HM.out]; rfl)
      clear hown9 hgrow9 hat9 hb9 hb19
      go_wp2
      go_roundw
      case rel => exact ⟨nx, m + 1, cap9, _, _, rfl, rfl, by omega, by omega, HM9, HV9⟩
      case measure => simp [intOf]; omega
    · have hsf := M.scanFrom_no hok
      rw [hsf] at hs1 hs2
      have HS1 := Lib.hid hs1; have HS2 := Lib.hid hs2; have HREC := Lib.hid hrec; have HB := Lib.hid hb
      generalize M.rdFrame l (k : Int) = rr at *
      obtain ⟨p, nx, er⟩ := rr
      simp only at hrf hok
      have HRF := Lib.hid hrf
      have hq : ((er : Int) != 0) = true := by simp; omega
      clear hrf hs1 hs2 hrec hb hsf
      go_wp2_with fail
      refine HRF.out.mono ?_
      rintro e w1 ⟨A1, n1, c1, rfl, hrd1, hb1⟩
      have HB1 := Lib.hid hb1
      clear hrd1 hb1
      go_wp2
      go_ret2
      refine ⟨_, rs, by rw [← HS2.out]; rfl, HREC.out.below HB1.out (Nat.le_trans hB hbs), ?_, HB.out.trans (HB1.out.mono HB.out.size)⟩
      have := HS1.out
      simpa using this

/-- a list of texts that can be read, slice by slice -/
def RdL (w : World) (A : Option Addr) (n c : Nat) (ls : List (List UInt8)) : Prop :=
  n = ls.length ∧ n ≤ c ∧ c ≤ 9223372036854775807 ∧ ∀ i (hi : i < ls.length), ∃ g off A' n' c', A = some ⟨g, off, none⟩ ∧ w.cell? ⟨g, off + i, none⟩ = some (.slice A' n' c') ∧ Rd w w.heap.size A' n' c' ls[i]
theorem RecsIn.rdl {w : World} {base B : Nat} {A : Option Addr} {n c : Nat} {rs : List Rec} (h : RecsIn w base B (.slice A n c) rs) (hB : B ≤ w.heap.size) : RdL w A n c (recs rs) := by
  obtain ⟨A', c', hv, h1, h2⟩ := h.form
  injection hv with e1 e2 e3
  subst e1 e2 e3
  refine ⟨by simp [recs], h1, h2, fun i hi => ?_⟩
  have hi' : i < rs.length := by simpa [recs] using hi
  obtain ⟨A1, n1, c1, hv1, hrd⟩ := h.2 rs[i] (List.getElem_mem hi')
  obtain ⟨g, cp, hvf⟩ : ∃ g cp, Value.slice A rs.length c = .slice (some ⟨g, 0, none⟩) rs.length cp := by
    rcases h.1.2 with ⟨_, h0⟩ | ⟨g, cap, cur, hv, _⟩
    · omega
    · exact ⟨g, cap, hv⟩
  injection hvf with e4 _ e5
  subst e4 e5
  have hcell := World.ownsRow.cellAt h.1 i (by omega)
  refine ⟨g, 0, A1, n1, c1, rfl, ?_, ?_⟩
  · rw [Nat.zero_add, hcell]
    simp [hi', hv1]
  · have e : (recs rs)[i] = rs[i].l := by simp [recs]
    rw [e]
    exact hrd.more hB
theorem RecsAt.rdl {w : World} {F : Nat → Prop} {A : Option Addr} {n c : Nat} {rs : List Rec} (h : RecsAt w F (.slice A n c) rs) : RdL w A n c (recs rs) := by
  refine RecsIn.rdl (base := 0) (B := w.heap.size) ⟨?_, fun r hr => ?_⟩ (Nat.le_refl _)
  · exact h.1
  · obtain ⟨A1, c1, hv, hrd⟩ := (h.2.2 r hr).1.open_
    exact ⟨A1, _, c1, hv, hrd⟩
end Go.Proofs.Ytocclaehiifabaa
