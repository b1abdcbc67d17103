/-
  What Encode does, the program's and the document's, by contracts.
-/
import Derived.Test.YtlmidhhonnnocaaDoorPostB
namespace Go.Proofs.YtlmidhhonnnocaaDoor
open Go.RowKit Mem
set_option linter.unusedVariables false
set_option maxRecDepth 100000

def EncTells (l : List Int) (w : World) (e : Ending) (w' : World) : Prop := ∃ v, e = .returned (.tuple #[v, .int .i64 (M.encErr l : Nat)]) ∧ Own w' w.heap.size 5 v (M.encOut l) ∧ Below w.heap.size w w'
/-- so much is written, the last one being 'last' -/
def Wrote (l : List Int) (j : Nat) (last : Int) (acc : List UInt8) : Prop := M.enc l = acc ++ M.encs last (l.drop j) ∧ acc.length ≤ 10 + 5 * j + 5 * ((last + 1).toNat / 34359738368)
theorem Wrote.start (l : List Int) : Wrote l 0 (-1) (M.uv l.length) := ⟨rfl, by have := (M.uv_len l.length).2; omega⟩
theorem Wrote.step {l : List Int} {j : Nat} {last x : Int} {acc : List UInt8} (h : Wrote l j last acc) (e : l.drop j = x :: l.drop (j + 1)) (hl : -1 ≤ last) (hx : last < x) : Wrote l (j + 1) x (acc ++ M.uv (x - last - 1).toNat) := by
  refine ⟨by rw [h.1, e, M.encs, List.append_assoc], ?_⟩
  have h1 := h.2
  have h2 := M.uv_weight (x - last - 1).toNat
  rw [List.length_append]
  obtain ⟨p, hp⟩ : ∃ p : Nat, (last + 1) = p := ⟨(last + 1).toNat, by omega⟩
  obtain ⟨q, hq⟩ : ∃ q : Nat, (x - last - 1) = q := ⟨(x - last - 1).toNat, by omega⟩
  have hx1 : (x + 1).toNat = p + q + 1 := by omega
  rw [hx1]
  rw [hp] at h1
  rw [hq] at h2
  rw [hq]
  simp only [Int.toNat_natCast] at h1 h2 ⊢
  omega
theorem Wrote.end_ {l : List Int} {j : Nat} {last : Int} {acc : List UInt8} (h : Wrote l j last acc) (hj : l.length ≤ j) : M.enc l = acc := by rw [h.1, List.drop_eq_nil_of_le hj, M.encs, List.append_nil]
theorem Wrote.room {l : List Int} {j : Nat} {last : Int} {acc : List UInt8} (h : Wrote l j last acc) (hj : j ≤ 17592186043904) (hm : last ≤ 9223372036854775807) : acc.length + 10 ≤ 140737488355328 := by
  have h1 := h.2
  have : (last + 1).toNat / 34359738368 ≤ 268435456 := by omega
  omega
theorem gap_wrap {x last : Int} (h : -1 ≤ last) (hx : last < x) (hm : x ≤ 9223372036854775807) : IntKind.u64.wrap (wrap64 (wrap64 (x - last) - 1)) = ((x - last - 1).toNat : Int) := by
  rw [IntKind.wrap_u64]
  simp only [wrap64]
  omega

set_option maxHeartbeats 2000000 in
theorem encode_any (A : Option Addr) (n c : Nat) (l : List Int) (w : World) (h : RdV w w.heap.size A n c (ints l)) (hk : Known l) (hn : n ≤ 17592186043904) :
    Calls Tryd.prog 55 #[.slice A n c] w (EncTells l w) := by
  obtain ⟨i0, hi, hz0, hz1, hz2⟩ := info_parts Tryd.info_byte
  have HI := Lib.hid hi; have HZ0 := Lib.hid hz0; have HZ1 := Lib.hid hz1; have HZ2 := Lib.hid hz2
  clear hi hz0 hz1 hz2
  have hc := h.2.1
  have hm := h.max
  have HR := Lib.hid h
  have HK := Lib.hid hk
  have HN := Lib.hid (show n = l.length by have := h.1; rwa [ints_len] at this)
  clear h hk
  have HU := Lib.hid (uvarint_any n w (by omega))
  have HW0 := Lib.hid (Wrote.start l)
  rw [← HN.out] at HW0
  go_enter Tryd.func55, Tryd.ntmps55
  go_wp2_with fail
  refine HU.out.mono ?_
  rintro e w1 ⟨v, rfl, hown, hb1⟩
  obtain ⟨A1, c1, rfl, hrd1⟩ := hown.open_
  have HO1 := Lib.hid hown
  have HB1 := Lib.hid hb1
  clear hown hb1 hrd1
  go_wp2
  go_loopw [4, 5, 14] (fun p q i wr => ∃ (j : Nat) (last : Int) (acc : List UInt8), q = .int .i64 last ∧ i = .int .i64 j ∧ j ≤ n ∧ -1 ≤ last ∧ last ≤ 9223372036854775807 ∧ Hid (M.rise (-1) l = M.rise last (l.drop j)) ∧ Hid (Wrote l j last acc) ∧ Hid (Own wr w.heap.size 5 p acc) ∧ Hid (Below w.heap.size w wr)) (fun _ _ i _ => n - (intOf i).toNat)
  case atStart => exact ⟨0, -1, _, rfl, rfl, Nat.zero_le _, by omega, by omega, Lib.hid rfl, HW0, HO1, HB1⟩
  case round =>
    obtain ⟨j, last, acc, rfl, rfl, hj, hl1, hl2, HRI, HWR, HP, HB⟩ := hrel
    rename World => wr
    by_cases hlt : j < n
    · obtain ⟨g, off, x, rfl, hg, hcell, hd, _, hmem⟩ := int_at (HR.out.below HB.out) hlt
      have hx := HK.out x hmem
      have hx1 := hx.1
      have hx2 := hx.2
      by_cases hxl : x ≤ last
      · have HF := Lib.hid (show M.rise (-1) l = false by rw [HRI.out, hd, M.rise_no hxl])
        have HE1 := Lib.hid (M.encErr_no HF.out)
        have HE2 := Lib.hid (M.encOut_no HF.out)
        clear hd hmem hx
        go_wp2
        go_ret2
        exact ⟨_, by rw [HE1.out]; rfl, by rw [HE2.out]; exact Own.nil _ _ _, HB.out⟩
      · have HRI2 := Lib.hid (show M.rise (-1) l = M.rise x (l.drop (j + 1)) by rw [HRI.out, hd, M.rise_yes (by omega)])
        have HWR2 := Lib.hid (HWR.out.step hd hl1 (by omega))
        have HG := Lib.hid (gap_wrap hl1 (show last < x by omega) hx2)
        have hq : decide (x ≤ last) = false := by simpa using hxl
        have HUW := Lib.hid (fun (W : World) => uvarint_any (x - last - 1).toNat W (by omega))
        have HRM := Lib.hid (HWR.out.room (by omega) hl2)
        have HUL := Lib.hid (M.uv_len (x - last - 1).toNat).2
        generalize (x - last - 1).toNat = gp at *
        clear hd hmem hx
        go_wp2_with fail
        rw [HG.out]
        refine (HUW.out wr).mono ?_
        rintro e w2 ⟨v2, rfl, hown2, hb2⟩
        have HP2 := Lib.hid (HP.out.below hb2)
        have HB2 := Lib.hid (HB.out.trans (hb2.mono HB.out.size))
        obtain ⟨A2, c2, rfl, hrd2⟩ := hown2.open_
        have hc2 := hrd2.cap
        have hm2 := hrd2.max
        have HR2 := Lib.hid hrd2
        clear hown2 hb2 hrd2
        go_wp2_with (at_builtin; go_must (refine wpList_app w2 rfl (.tmp 21) (.tmp 27) _ rfl w.heap.size _ _ i0 Tryd.underlying24 HI.out HZ0.out HZ1.out HZ2.out _ acc HP2.out rfl _ _ _ _ HR2.out rfl ?_ HB2.out.size ?_))
        · have h1 := HRM.out
          have h2 := HUL.out
          omega
        intro v' w3 hown3 hg3 hat3
        have HB3 := Lib.hid (HB2.out.trans (below_own HP2.out HB2.out.size hg3))
        obtain ⟨A3, c3, rfl, hrd3⟩ := hown3.open_
        have HP3 := Lib.hid hown3
        clear hown3 hg3 hat3 hrd3 hcell
        go_wp2
        go_roundw
        case rel => exact ⟨j + 1, x, _, rfl, by go_num, by omega, by omega, by omega, HRI2, HWR2, HP3, HB3⟩
        case measure => simp [intOf]; omega
    · have HF := Lib.hid (show M.rise (-1) l = true by rw [HRI.out, List.drop_eq_nil_of_le (by have := HN.out; omega)]; rfl)
      have HE1 := Lib.hid (M.encErr_yes HF.out)
      have HE2 := Lib.hid (show M.encOut l = acc by rw [M.encOut_yes HF.out]; exact HWR.out.end_ (by have := HN.out; omega))
      go_wp2
      go_ret2
      exact ⟨_, by rw [HE1.out]; rfl, by rw [HE2.out]; exact HP.out, HB.out⟩

set_option maxHeartbeats 2000000 in
theorem ref_encode_any (A : Option Addr) (n c : Nat) (l : List Int) (w : World) (h : RdV w w.heap.size A n c (ints l)) (hk : Known l) (hn : n ≤ 17592186043904) (hrise : M.rise (-1) l = true) :
    Calls Tryd.prog 37 #[.slice A n c] w (Gives w (M.enc l)) := by
  obtain ⟨i0, hi, hz0, hz1, hz2⟩ := info_parts Tryd.info_byte
  have HI := Lib.hid hi; have HZ0 := Lib.hid hz0; have HZ1 := Lib.hid hz1; have HZ2 := Lib.hid hz2
  clear hi hz0 hz1 hz2
  have hc := h.2.1
  have hm := h.max
  have HR := Lib.hid h
  have HK := Lib.hid hk
  have HRISE := Lib.hid hrise
  have HN := Lib.hid (show n = l.length by have := h.1; rwa [ints_len] at this)
  clear h hk hrise
  have HU := Lib.hid (ref_uvarint_any n w (by omega))
  have HW0 := Lib.hid (Wrote.start l)
  rw [← HN.out] at HW0
  go_enter Tryd.func37, Tryd.ntmps37
  go_wp2_with fail
  refine HU.out.mono ?_
  rintro e w1 ⟨v, rfl, hown, hb1⟩
  obtain ⟨A1, c1, rfl, hrd1⟩ := hown.open_
  have HO1 := Lib.hid hown
  have HB1 := Lib.hid hb1
  clear hown hb1 hrd1
  go_wp2
  go_loopw [3, 4] (fun p i wr => ∃ (j : Nat) (last : Int) (acc : List UInt8), i = .int .i64 j ∧ j ≤ n ∧ last ≤ 9223372036854775807 ∧ Hid (Rose l j last) ∧ Hid (Wrote l j last acc) ∧ Hid (Own wr w.heap.size 5 p acc) ∧ Hid (Below w.heap.size w wr)) (fun _ i _ => n - (intOf i).toNat)
  case atStart => exact ⟨0, -1, _, rfl, Nat.zero_le _, by omega, Lib.hid (Rose.start l), HW0, HO1, HB1⟩
  case round =>
    obtain ⟨j, last, acc, rfl, hj, hl2, HRO, HWR, HP, HB⟩ := hrel
    rename World => wr
    by_cases hlt : j < n
    · obtain ⟨g, off, x, rfl, hg, hcell, hd, hat, hmem⟩ := int_at (HR.out.below HB.out) hlt
      have hx := HK.out x hmem
      have hx1 := hx.1
      have hx2 := hx.2
      have hl1 := HRO.out.2.1
      have hlx : last < x := by
        have h1 := HRO.out.1
        rw [HRISE.out, hd] at h1
        exact ((M.rise_cons _ _ _).1 h1.symm).1
      have HRO2 := Lib.hid (HRO.out.step hd hat hlx)
      have HWR2 := Lib.hid (HWR.out.step hd hl1 hlx)
      have HG := Lib.hid (gap_wrap hl1 hlx hx2)
      have HUW := Lib.hid (fun (W : World) => ref_uvarint_any (x - last - 1).toNat W (by omega))
      have HRM := Lib.hid (HWR.out.room (by omega) hl2)
      have HUL := Lib.hid (M.uv_len (x - last - 1).toNat).2
      have hil : (j : Int) < (n : Int) := by omega
      cases j with
      | zero =>
        have hl0 := HRO.out.2.2.2 rfl
        have HX := Lib.hid (show x = ((x - last - 1).toNat : Int) by omega)
        have HWG := Lib.hid (show IntKind.u64.wrap (((x - last - 1).toNat : Nat) : Int) = (((x - last - 1).toNat : Nat) : Int) by rw [IntKind.wrap_u64]; omega)
        generalize (x - last - 1).toNat = gp at *
        rw [HX.out, Nat.add_zero] at hcell
        clear hd hmem hx hat hlx
        go_wp2_with fail
        rw [HWG.out]
        refine (HUW.out _).mono ?_
        rintro e w2 ⟨v2, rfl, hown2, hb2⟩
        have hb2' := hb2
        have HP2 := Lib.hid (HP.out.below hb2')
        have HB2 := Lib.hid (HB.out.trans (hb2'.mono HB.out.size))
        obtain ⟨A2, c2, rfl, hrd2⟩ := hown2.open_
        have hc2 := hrd2.cap
        have hm2 := hrd2.max
        have HR2 := Lib.hid hrd2
        clear hown2 hb2 hb2' hrd2
        go_wp2_with (at_builtin; go_must (refine wpList_app w2 rfl (.tmp 33) (.tmp 36) _ rfl w.heap.size _ _ i0 Tryd.underlying24 HI.out HZ0.out HZ1.out HZ2.out _ acc HP2.out rfl _ _ _ _ HR2.out rfl ?_ HB2.out.size ?_))
        · have h1 := HRM.out
          have h2 := HUL.out
          omega
        intro v' w3 hown3 hg3 hat3
        have HB3 := Lib.hid (HB2.out.trans (below_own HP2.out HB2.out.size hg3))
        obtain ⟨A3, c3, rfl, hrd3⟩ := hown3.open_
        have HP3 := Lib.hid hown3
        clear hown3 hg3 hat3 hrd3 hcell
        go_wp2
        go_roundw
        case rel => exact ⟨1, x, _, by go_num, by omega, by omega, HRO2, HWR2, HP3, HB3⟩
        case measure => simp [intOf]; omega
      | succ i =>
        obtain ⟨g2, off2, y, e2, _, hcell2, _, hat2, _⟩ := int_at (HR.out.below HB.out) (show i < n by omega)
        injection e2 with e2
        injection e2 with e2 e3 _
        subst e2 e3
        have hyl : y = last := by
          have h1 := HRO.out.2.2.1 (by omega)
          rw [Nat.add_sub_cancel, hat2] at h1
          injection h1
        subst hyl
        have hii : (i : Int) < (n : Int) := by omega
        have hwi : IntKind.i64.wrap (i : Int) = (i : Int) := by rw [IntKind.wrap_i64]; omega
        generalize (x - y - 1).toNat = gp at *
        clear hd hmem hx hat hat2
        go_wp2_with fail
        go_quiet (fail)
        go_wp2_with fail
        rw [HG.out]
        refine (HUW.out _).mono ?_
        rintro e w2 ⟨v2, rfl, hown2, hb2⟩
        have hb2' := below_undrewN hb2
        have HP2 := Lib.hid (HP.out.below hb2')
        have HB2 := Lib.hid (HB.out.trans (hb2'.mono HB.out.size))
        obtain ⟨A2, c2, rfl, hrd2⟩ := hown2.open_
        have hc2 := hrd2.cap
        have hm2 := hrd2.max
        have HR2 := Lib.hid hrd2
        clear hown2 hb2 hb2' hrd2
        go_wp2_with (at_builtin; go_must (refine wpList_app w2 rfl (.tmp 33) (.tmp 36) _ rfl w.heap.size _ _ i0 Tryd.underlying24 HI.out HZ0.out HZ1.out HZ2.out _ acc HP2.out rfl _ _ _ _ HR2.out rfl ?_ HB2.out.size ?_))
        · have h1 := HRM.out
          have h2 := HUL.out
          omega
        intro v' w3 hown3 hg3 hat3
        have HB3 := Lib.hid (HB2.out.trans (below_own HP2.out HB2.out.size hg3))
        obtain ⟨A3, c3, rfl, hrd3⟩ := hown3.open_
        have HP3 := Lib.hid hown3
        clear hown3 hg3 hat3 hrd3 hcell
        go_wp2
        go_roundw
        case rel => exact ⟨i + 1 + 1, x, _, by go_num, by omega, by omega, HRO2, HWR2, HP3, HB3⟩
        case measure => simp [intOf]; omega
    · have HE2 := Lib.hid (HWR.out.end_ (by have := HN.out; omega))
      go_wp2
      go_ret
      exact ⟨_, rfl, by rw [HE2.out]; exact HP.out, HB.out⟩
end Go.Proofs.YtlmidhhonnnocaaDoor
