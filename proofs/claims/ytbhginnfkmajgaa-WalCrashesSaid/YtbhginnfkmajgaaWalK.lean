/-
  A log's At, and all of its records.
-/
import Derived.Test.YtbhginnfkmajgaaWalI
namespace Go.Proofs.Ytbhginnfkmajgaa
open Go.RowKit Mem FM
set_option linter.unusedVariables false
set_option maxRecDepth 100000

set_option maxHeartbeats 1000000 in
theorem at_any (G D i : Nat) (F : Nat → Prop) (nm : ByteArray) (rs : List Rec) (w : World) (h : LogAt w F G D nm rs) (hi : i < rs.length) :
    Calls Try.prog 29 #[.pointer (some ⟨G, 0, none⟩), .int .i64 i] w (fun e w' => ∃ A n c, e = .returned (.tuple #[.slice A n c, .int .i64 0]) ∧ Own w' w.heap.size 5 (.slice A n c) rs[i].l ∧ Below w.heap.size w w') := by
  have HLN := Lib.hid (len_any G D F nm rs w h)
  obtain ⟨v, h1, _, h3, _⟩ := h
  obtain ⟨A, c, rfl, hc, hcm⟩ := h3.form
  obtain ⟨g, hvf⟩ : ∃ g, A = some ⟨g, 0, none⟩ := by
    rcases h3.1.2 with ⟨_, h0⟩ | ⟨g, cap, cur, hv, _⟩
    · omega
    · injection hv with e _ _; exact ⟨g, e⟩
  subst hvf
  have hcell0 := World.ownsRow.cellAt h3.1 i (by omega)
  obtain ⟨hown, hfoo, hl⟩ := h3.2.2 rs[i] (List.getElem_mem hi)
  obtain ⟨A1, c1, hv1, hrd⟩ := hown.open_
  have hcell : w.cell? ⟨g, i, none⟩ = some (.slice A1 rs[i].l.length c1) := by rw [hcell0]; simp [hi, hv1]
  clear hcell0
  have HCL := Lib.hid (clone_at _ A1 _ c1 rs[i].l w hrd (Nat.le_refl _) (by omega))
  have c2 := h1.c2
  clear h1 h3 hown hrd hv1 hfoo
  generalize rs[i].l = lr at *
  obtain ⟨ln, hln⟩ : ∃ ln, ln = lr.length := ⟨_, rfl⟩
  rw [← hln] at hcell HCL hl
  clear hln
  generalize rs.length = n at *
  go_enter Try.func29, Try.ntmps29
  go_wp2_with fail
  refine HLN.out.mono ?_
  rintro e w1 ⟨rfl, hw1⟩
  subst hw1
  go_wp2_with fail
  refine HCL.out.mono ?_
  rintro e w2 ⟨v2, rfl, hown2, hb2⟩
  obtain ⟨A2, c2', hv2, _⟩ := hown2.open_
  subst hv2
  have HO := Lib.hid hown2; have HB := Lib.hid hb2
  clear hown2 hb2
  generalize lr.length = ln2 at *
  go_wp2
  go_ret2
  exact ⟨_, _, _, rfl, HO.out, HB.out⟩

def AllInv (w : World) (F : Nat → Prop) (G D : Nat) (nm : ByteArray) (rs : List Rec) (v : Value) (ls : List Rec) (wr : World) : Prop :=
  RecsAt wr (fun b => w.heap.size ≤ b) v ls ∧ Below w.heap.size w wr ∧ recs ls = (recs rs).take ls.length

set_option maxHeartbeats 1000000 in
theorem all_any (G D : Nat) (F : Nat → Prop) (nm : ByteArray) (rs : List Rec) (w : World) (h : LogAt w F G D nm rs) (hn : rs.length ≤ 1000000000) :
    Calls Try.prog 13 #[.pointer (some ⟨G, 0, none⟩)] w (fun e w' => ∃ A n c ls, e = .returned (.slice A n c) ∧ RecsAt w' (fun k => w.heap.size ≤ k) (.slice A n c) ls ∧ recs ls = recs rs ∧ Below w.heap.size w w') := by
  obtain ⟨i0, hi, hz0, hz1, hz2⟩ := info_parts Try.infoR
  have HI := Lib.hid hi; have HZ0 := Lib.hid hz0; have HZ1 := Lib.hid hz1; have HZ2 := Lib.hid hz2
  clear hi hz0 hz1 hz2
  have HL := Lib.hid h
  clear h
  have HS0 := Lib.hid (show AllInv w F G D nm rs (.slice none 0 0) [] w from ⟨RecsAt.nil, Below.refl _ _, by simp [recs]⟩)
  obtain ⟨n, hrn⟩ : ∃ n, n = rs.length := ⟨_, rfl⟩
  rw [← hrn] at hn
  have HRN := Lib.hid hrn
  clear hrn
  go_enter Try.func13, Try.ntmps13
  go_wp2
  go_loopw [3, 4] (fun o p wr => ∃ (m c2 : Nat) (A2 : Option Addr) (ls : List Rec), p = .int .i64 m ∧ o = .slice A2 m c2 ∧ m ≤ n ∧ Hid (ls.length = m) ∧ Hid (AllInv w F G D nm rs (.slice A2 m c2) ls wr)) (fun _ p _ => n - (intOf p).toNat)
  case atStart => exact ⟨0, 0, none, [], rfl, rfl, Nat.zero_le _, Lib.hid rfl, HS0⟩
  case round =>
    obtain ⟨m, c2, A2, ls, rfl, rfl, hm, HM, HV⟩ := hrel
    rename World => wr
    obtain ⟨hrec, hb, hs⟩ := HV.out
    have hlw := HL.out.below hb
    have hln := len_any G D F nm rs wr hlw
    rw [← HRN.out] at hln
    have HLN := Lib.hid hln
    have hbs : w.heap.size ≤ wr.heap.size := hb.size
    by_cases hlt : m < n
    · have hltr : m < rs.length := by have := HRN.out; omega
      have HAT := Lib.hid (at_any G D m F nm rs wr hlw hltr)
      obtain ⟨_, _, _, h3, _⟩ := hlw
      have HA4 := Lib.hid (h3.2.2 rs[m] (List.getElem_mem hltr)).2.2
      have HREC := Lib.hid hrec; have HB := Lib.hid hb; have HS := Lib.hid hs
      clear hrec hb hs hln h3
      go_wp2_with fail
      refine HLN.out.mono ?_
      rintro e w0 ⟨rfl, hw0⟩
      subst hw0
      go_wp2_with fail
      refine HAT.out.mono ?_
      rintro e w1 ⟨A1, n1, c1, rfl, hown1, hb1⟩
      have HROW1 := Lib.hid (HREC.out.below hb1)
      have HRM := Lib.hid (show w1.ownsRow 0 34 1 (.slice A2 m c2) m (ls.map Rec.v) by have := HROW1.out.1; rwa [HM.out] at this)
      have HOWN1 := Lib.hid hown1
      have HB1 := Lib.hid (HB.out.trans (hb1.mono HB.out.size))
      have hw1 : w0.heap.size ≤ w1.heap.size := hb1.size
      clear hown1 hb1
      go_wp2_with (at_builtin; go_must (refine wpList_append_lies _ rfl (.tmp 21) (.tmp 23) _ rfl 0 34 i0 _ 1 24 Try.underlying22 HI.out HZ0.out HZ1.out HZ2.out rfl (by omega) (.slice A2 m c2) m _ rfl (HRM.out.alloc _) ⟨w1.heap.size, 0, none⟩ 1 1 [.slice A1 n1 c1] rfl rfl (World.news_of_block (cs := #[.slice A1 n1 c1]) (t := 34) (fr := (0, 0)) (heap_alloc_new w1 _)) (by simp [Value.oneCell']) (by omega) (by simp only [maxLen]; omega) (by omega) (Nat.zero_le _) (w1.heap.size + 1) (by simp) ?_))
      intro g9 cap9 w9 hown9 hgrow9 hat9 hlt9
      have hR9 := HROW1.out.grow (gg := g9) (cap := cap9) (r := ⟨.slice A1 n1 c1, rs[m].l⟩) (HOWN1.out.less (Nat.zero_le _)) HA4.out (fun k' hk' => Nat.le_trans hbs (HOWN1.out.lt k' hk').1) (hat9.imp id (fun e => by omega)) (by rw [HM.out]; exact hown9) hgrow9
      rw [HM.out] at hR9
      have HV9 := Lib.hid (show AllInv w F G D nm rs (.slice (some ⟨g9, 0, none⟩) (m + 1) cap9) (ls ++ [⟨.slice A1 n1 c1, rs[m].l⟩]) w9 from
        ⟨hR9, (HB1.out.alloc HB1.out.size _).grown hgrow9 (by have := HB1.out.size; simp; omega) (fun k' hk' => HROW1.out.2.1 k' hk'), by
          have e := HS.out
          have e1 : recs (ls ++ [(⟨.slice A1 n1 c1, rs[m].l⟩ : Rec)]) = recs ls ++ [rs[m].l] := by simp [recs]
          have e2 : (recs rs)[m]? = some rs[m].l := by simp [recs, hltr]
          rw [e1, e, List.length_append, HM.out, List.length_singleton, List.take_add_one, e2]; rfl⟩)
      have HM9 := Lib.hid (show (ls ++ [(⟨.slice A1 n1 c1, rs[m].l⟩ : Rec)]).length = m + 1 by rw [List.length_append, HM.out]; rfl)
      clear hown9 hgrow9 hat9 hR9
      go_wp2
      go_roundw
      case rel => exact ⟨m + 1, cap9, _, _, rfl, rfl, by omega, HM9, HV9⟩
      case measure => simp [intOf]; omega
    · obtain rfl : m = n := by omega
      have HREC := Lib.hid hrec; have HB := Lib.hid hb; have HS := Lib.hid hs
      clear hrec hb hs hln hlw
      go_wp2_with fail
      refine HLN.out.mono ?_
      rintro e w0 ⟨rfl, hw0⟩
      subst hw0
      go_wp2
      go_ret
      refine ⟨_, _, _, ls, rfl, HREC.out, ?_, HB.out⟩
      rw [HS.out, HM.out, List.take_of_length_le]
      have := HRN.out
      simp [recs]; omega
end Go.Proofs.Ytbhginnfkmajgaa
