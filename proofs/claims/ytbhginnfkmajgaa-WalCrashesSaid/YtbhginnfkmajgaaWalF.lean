/-
  What a log's Append does, by a contract.
-/
import Derived.Test.YtbhginnfkmajgaaWalE
namespace Go.Proofs.Ytbhginnfkmajgaa
open Go.RowKit Mem FM
set_option linter.unusedVariables false
set_option maxRecDepth 100000
attribute [local go_sem ↓] Go.wp_at_zero Go.wp_at_succ

/-- a log's Append, of a record that isn't too long -/
def lappR (s : St) (nm : ByteArray) (l : List UInt8) : Int × St := appended s nm (M.frame l)

def lappLs (ls : List (List UInt8)) (x : Int) (l : List UInt8) : List (List UInt8) := if x = 0 then ls ++ [l] else ls

set_option maxHeartbeats 2000000 in
theorem lappend_any (D G B : Nat) (F FL : Nat → Prop) (s : St) (nm : ByteArray) (rs : List Rec) (A : Option Addr) (n c : Nat) (l : List UInt8) (w : World) (h : DiskAt w F D s) (hl : LogAt w FL G D nm rs) (hap : ∀ k, FL k → ¬ F k) (hn : nm.size ≤ 100) (hops : s.ops + 1 < 1099511627776)
    (hf : Firm F w A n c l) (hlen : n ≤ 65535) (hrs : rs.length ≤ 1000000000) :
    Calls Try.prog 8 #[.pointer (some ⟨G, 0, none⟩), .slice A n c] w (WalDid F FL D G (lappR s nm l).1 (lappR s nm l).2 nm (lappLs (recs rs) (lappR s nm l).1 l) w) := by
  obtain ⟨i0, hi, hz0, hz1, hz2⟩ := info_parts Try.infoR
  have HI := Lib.hid hi; have HZ0 := Lib.hid hz0; have HZ1 := Lib.hid hz1; have HZ2 := Lib.hid hz2
  clear hi hz0 hz1 hz2
  have hr0 := hf w (Turned.refl _ _)
  have HN := Lib.hid hr0.len
  have hcap := hr0.cap; have hcm := hr0.max
  have HFR := Lib.hid (frame_any A n c w.heap.size l w hr0 (Nat.le_refl _) hlen)
  have HF := Lib.hid hf; have HD0 := Lib.hid h; have HL0 := Lib.hid hl; have HAP := Lib.hid hap
  have HE := Lib.hid (show lappR s nm l = appended s nm (M.frame l) from rfl)
  have HFT := Lib.hid (show ∀ k, F k → k < w.heap.size from fun k hk => h.foot hk)
  have HAPD := Lib.hid (fun (w1 : World) (A1 : Option Addr) (n1 c1 : Nat) (hd : DiskAt w1 F D s) (hr : Rd w1 w1.heap.size A1 n1 c1 (M.frame l)) => append_any D w1.heap.size F s nm A1 n1 c1 (M.frame l) w1 hd (by omega) hr (Nat.le_refl _) hops)
  clear h hl hap hf hr0
  generalize appended s nm (M.frame l) = rr at *
  obtain ⟨x, s'⟩ := rr
  simp only at HAPD
  by_cases hx : x = 0
  · subst hx
    go_enter Try.func8, Try.ntmps8
    go_wp2_with fail
    refine HFR.out.mono ?_
    rintro e w1 ⟨v1, rfl, hv1, hb1⟩
    obtain ⟨A1, c1, hvv, hr1⟩ := hv1.open_
    subst hvv
    have hL1 := HL0.out.below hb1
    obtain ⟨v, hlb1, hG, hrec1, hft1⟩ := hL1
    obtain ⟨Av, cv, hvf, hcv, hcvm⟩ := hrec1.form
    subst hvf
    have c0 := hlb1.c0; have c11 := hlb1.c1
    have hGl := hlb1.lt
    have HGF := Lib.hid (HAP.out G hG)
    have HC := Lib.hid (HAPD.out w1.drew A1 _ c1 (HD0.out.below hb1).drew hr1.drew)
    have HLB1 := Lib.hid hlb1; have HG := Lib.hid hG; have HREC1 := Lib.hid hrec1; have HFT1 := Lib.hid hft1; have HB1 := Lib.hid hb1
    clear hv1 hb1 hr1 hlb1 hrec1 hft1
    generalize (M.frame l).length = nf at *
    go_wp2_with fail
    go_region_held3 (fun w' => w'.cell? ⟨G, 0, none⟩ = some (.pointer (some ⟨D, 0, none⟩)) ∧ w'.cell? ⟨G, 1, none⟩ = some (.string nm)) (go_keep)
      ((go_at_call 23; refine HC.out.mono ?_; rintro e w2 ⟨rfl, F2, hd2, ht2, hs2⟩
        have q0 := (ht2.cell (p := ⟨G, 0, none⟩) hGl HGF.out).trans c0; have q1 := (ht2.cell (p := ⟨G, 1, none⟩) hGl HGF.out).trans c11
        have HD2 := Lib.hid hd2; have HT2 := Lib.hid ht2.undrew; have HS2 := Lib.hid hs2; clear hd2 ht2 hs2))
    have hlb2 := HLB1.out.turned HT2.out HGF.out
    have hrec2 := HREC1.out.turned HT2.out (fun k hk => HAP.out k hk)
    have hw2 : w1.heap.size ≤ w2.heap.size := HT2.out.size
    have m2 := hlb2.c2; have mf := hlb2.f2
    have hGl2 := hlb2.lt
    have hr2 := HF.out w2 ((Turned.of_below HB1.out).trans HT2.out)
    have HCL := Lib.hid (clone_at w2.heap.size A n c l w2.drew hr2.drew (Nat.le_refl _) (by have := HN.out; omega))
    have HLB2 := Lib.hid hlb2; have HREC2 := Lib.hid hrec2
    have HVG := Lib.hid (show (Value.slice Av rs.length cv).ownBlock ≠ some G from fun hk => by
      obtain ⟨cur, hh⟩ := row_block hrec2.1 hk
      have := hlb2.symm.trans hh
      simp at this)
    clear hlb2 hrec2 hr2 HC q0 q1
    go_wp2_with fail
    go_region_law (first
      | (refine step_call (by rfl) 24 #[.slice A n c] (by simp [Act.eval, go_sem]) (fun v => v) (CloneAt l _) HCL.out ?_; rintro v3 w3 ⟨hown3, hb3⟩
         obtain ⟨A3, c3, hv3, hr3⟩ := hown3.open_
         subst hv3
         have hl3 : l.length = n := HN.out.symm
         rw [hl3] at hown3
         rw [hl3]
         have q2 := (hb3.cell (p := ⟨G, 2, none⟩) hGl2).trans m2
         have q2f := (hb3.frozen (p := ⟨G, 2, none⟩) hGl2).trans mf
         have hw3 : w2.heap.size ≤ w3.heap.size := hb3.size
         have hG3 : G < w3.heap.size := by omega
         have HOWN3 := Lib.hid hown3; have HB3 := Lib.hid (below_undrew hb3)
         clear hown3 hb3 hr3 hl3)
      | (refine step_append_lies _ (by rfl) _ _ _ (by rfl) 0 34 i0 _ 1 24 Try.underlying22 HI.out HZ0.out HZ1.out HZ2.out rfl (by omega) (.slice Av rs.length cv) rs.length (rs.map Rec.v) (by rfl) (((HREC2.out.below HB3.out).1).alloc _)
            ⟨w3.heap.size, 0, none⟩ 1 1 [.slice A3 n c3] (by rfl) (by rfl) (World.news_of_block (cs := #[.slice A3 n c3]) (t := 34) (fr := (0, 0)) (heap_alloc_new w3 _)) (by simp [Value.oneCell'])
            (by omega) (by simp only [maxLen]; omega) (by omega) (Nat.zero_le _) (w3.heap.size + 1) (by simp) ?_; intro gg cap w4 hown4 hgrow hat hlt
         have hbk : w4.heap[G]? = w3.heap[G]? := (hgrow.block G (by simp; omega) (Ne.symm HVG.out)).trans (Below.heap_alloc _ _ _ hG3)
         have r1 : w4.cell? ⟨G, 2, none⟩ = some (.slice Av rs.length cv) := (World.cell?_of_block (a := ⟨G, 2, none⟩) hbk).trans q2
         have rf : w4.frozen? ⟨G, 2, none⟩ = false := (World.frozen?_of_block (a := ⟨G, 2, none⟩) hbk).trans q2f
         have HOWN4 := Lib.hid hown4; have HGR := Lib.hid hgrow; have HAT := Lib.hid hat
         clear hbk hown4 hgrow hat))
    all_goals
      obtain ⟨hfin, hT5⟩ := log_more (r := ⟨.slice A3 n c3, l⟩) HLB2.out HG.out HREC2.out (fun k hk => Nat.lt_of_lt_of_le (HFT1.out k hk) hw2) HB3.out HOWN3.out (by have := HN.out; simp only; omega) HOWN4.out HGR.out HAT.out
      have HFIN := Lib.hid hfin; have HT5 := Lib.hid hT5
      clear hfin hT5
      go_wp2
      go_ret
      rw [HE.out, show lappLs (recs rs) ((0 : Int), s').1 l = recs rs ++ [l] from if_pos rfl]
      refine ⟨rfl, F2, _, rs ++ [⟨.slice A3 n c3, l⟩], HD2.out.far (HT5.out) (fun k hk hf => ?_), HFIN.out, by simp [recs], fun k hk hf => ?_, ?_, ?_, ?_⟩
      · rcases HS2.out k hk with h1 | h1
        · exact HAP.out k hf h1
        · have := HFT1.out k hf
          have h1 : w1.heap.size ≤ k := h1
          omega
      · rcases hk with hk | hk
        · rcases HS2.out k hf with h1 | h1
          · exact HAP.out k hk h1
          · have := HFT1.out k hk
            have h1 : w1.heap.size ≤ k := h1
            omega
        · have := HD2.out.foot hf; omega
      · exact (((Turned.of_below HB1.out).trans (HT2.out.more (fun k _ hk => .inl hk))).trans (HT5.out.more (fun k _ hk => .inr hk)))
      · intro k hk
        exact (HS2.out k hk).imp id (fun h1 => by have h1 : w1.heap.size ≤ k := h1; have := HB1.out.size; omega)
      · intro k hk
        exact hk.imp id (fun h1 => by have := HB1.out.size; omega)
  · have hq : (x != 0) = true := by simpa using hx
    go_enter Try.func8, Try.ntmps8
    go_wp2_with fail
    refine HFR.out.mono ?_
    rintro e w1 ⟨v1, rfl, hv1, hb1⟩
    obtain ⟨A1, c1, hvv, hr1⟩ := hv1.open_
    subst hvv
    have hL1 := HL0.out.below hb1
    have HL1 := Lib.hid hL1
    obtain ⟨v, hlb1, hG, hrec1, hft1⟩ := hL1
    have c0 := hlb1.c0; have c11 := hlb1.c1
    have hGl := hlb1.lt
    have HGF := Lib.hid (HAP.out G hG)
    have HC := Lib.hid (HAPD.out w1.drew A1 _ c1 (HD0.out.below hb1).drew hr1.drew)
    have HFT1 := Lib.hid hft1; have HB1 := Lib.hid hb1
    clear hv1 hb1 hr1 hlb1 hrec1 hft1
    generalize (M.frame l).length = nf at *
    go_wp2_with fail
    go_region_held3 (fun w' => w'.cell? ⟨G, 0, none⟩ = some (.pointer (some ⟨D, 0, none⟩)) ∧ w'.cell? ⟨G, 1, none⟩ = some (.string nm)) (go_keep)
      ((go_at_call 23; refine HC.out.mono ?_; rintro e w2 ⟨rfl, F2, hd2, ht2, hs2⟩
        have q0 := (ht2.cell (p := ⟨G, 0, none⟩) hGl HGF.out).trans c0; have q1 := (ht2.cell (p := ⟨G, 1, none⟩) hGl HGF.out).trans c11
        have HD2 := Lib.hid hd2; have HT2 := Lib.hid ht2.undrew; have HS2 := Lib.hid hs2; clear hd2 ht2 hs2))
    go_wp2
    go_ret
    rw [HE.out, show lappLs (recs rs) (x, s').1 l = recs rs from if_neg hx]
    refine ⟨rfl, F2, FL, rs, HD2.out, HL1.out.turned HT2.out (fun k hk => HAP.out k hk), rfl, fun k hk hf => ?_, (Turned.of_below HB1.out).trans (HT2.out.more (fun k _ hk => .inl hk)), ?_, Spread.refl _ _⟩
    · rcases HS2.out k hf with h1 | h1
      · exact HAP.out k hk h1
      · have := HFT1.out k hk
        have h1 : w1.heap.size ≤ k := h1
        omega
    · intro k hk
      exact (HS2.out k hk).imp id (fun h1 => by have h1 : w1.heap.size ≤ k := h1; have := HB1.out.size; omega)
end Go.Proofs.Ytbhginnfkmajgaa
