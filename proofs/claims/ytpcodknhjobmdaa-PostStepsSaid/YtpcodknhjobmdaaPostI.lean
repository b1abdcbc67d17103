/-
  The law PostCodes, by the contracts.
-/
import Derived.Test.YtpcodknhjobmdaaPostG
namespace Go.Proofs.Ytpcodknhjobmdaa
open Go.RowKit Mem
set_option linter.unusedVariables false
set_option maxRecDepth 100000

theorem last_max {l : List Int} {k : Nat} {x : Int} (hr : M.rise (-1) l = true) (hk : l.length = k + 1) (hx : l[k]? = some x) : ∀ y ∈ l, y ≤ x := by
  intro y hy
  have h1 := M.rise_max (-1) hr y hy
  have h2 : l.getLastD (-1) = x := by
    rw [List.getLastD_eq_getLast?, List.getLast?_eq_getElem?, hk, Nat.add_sub_cancel, hx]; rfl
  omega

set_option maxHeartbeats 4000000 in
theorem postCodes_any (A : Option Addr) (n c : Nat) (l : List Int) (more : Nat) (w : World) (h : RdV w w.heap.size A n c (ints l)) (hk : Known l) (hz : c ≤ 17592186043904) (hmore : more < 256) :
    Calls Try.prog 3 #[.slice A n c, .int .u8 more] w (SaysB true w) := by
  have hc := h.2.1
  have HR := Lib.hid (show Reads w A n c l from h)
  have HN := Lib.hid (show n = l.length by have := h.1; rwa [ints_len] at this)
  have HK := Lib.hid hk
  clear h hk
  cases hr : M.rise (-1) l with
  | false =>
    have HO := Lib.hid (M.encOut_no hr)
    have HE := Lib.hid (M.encErr_no hr)
    go_enter Try.func3, Try.ntmps3
    go_wp2_with fail
    refine (awake8_any w).mono ?_
    rintro e w1 ⟨rfl, hb1⟩
    go_wp2_with fail
    refine (encode_any A n c l w1 (HR.out.on hb1) HK.out (by omega)).mono ?_
    rintro e w2 ⟨v2, rfl, ho2, hb2⟩
    have hb02 := hb1.trans (hb2.mono hb1.size)
    rw [HO.out] at ho2
    rw [HE.out]
    obtain ⟨A2, c2, rfl, hrd2⟩ := ho2.open_
    clear ho2 hb1 hb2 hrd2
    go_wp2_with fail
    refine (rises_any A n c _ l w2 (HR.out.on hb02)).mono ?_
    rintro e w3 ⟨rfl, hb3⟩
    have HB := Lib.hid (hb02.trans (hb3.mono hb02.size))
    rw [hr]
    clear hb02 hb3
    go_wp2
    go_ret
    exact ⟨rfl, HB.out⟩
  | true =>
    have HO := Lib.hid (M.encOut_yes hr)
    have HE := Lib.hid (M.encErr_yes hr)
    have HREF := Lib.hid (fun (W : World) (hb : Below w.heap.size w W) => ref_encode_any A n c l W (HR.out.on hb) HK.out (by omega) hr)
    have HRD := Lib.hid (M.rdAt_enc l (by have := HN.out; omega))
    have HD0 := Lib.hid (fun (below : Int) => M.dec_enc l below hr)
    have HD1 := Lib.hid (fun (below : Int) (h : ∃ x ∈ l, below ≤ x) => M.dec_low l below hr h (fun x hx => (HK.out x hx).2) (by have := HN.out; omega))
    have HMAX := Lib.hid (fun (k : Nat) (x : Int) => last_max (l := l) (k := k) (x := x) hr)
    have HPOS := Lib.hid (M.rise_mem hr)
    go_enter Try.func3, Try.ntmps3
    go_wp2_with fail
    refine (awake8_any w).mono ?_
    rintro e w1 ⟨rfl, hb1⟩
    go_wp2_with fail
    refine (encode_any A n c l w1 (HR.out.on hb1) HK.out (by omega)).mono ?_
    rintro e w2 ⟨v2, rfl, ho2, hb2⟩
    have hb02 := hb1.trans (hb2.mono hb1.size)
    rw [HO.out] at ho2
    rw [HE.out]
    obtain ⟨A2, c2, rfl, hrd2⟩ := ho2.open_
    have hc2 := hrd2.cap
    have hm2 := hrd2.max
    clear ho2 hb1 hb2
    go_wp2_with fail
    refine (rises_any A n c _ l w2 (HR.out.on hb02)).mono ?_
    rintro e w3 ⟨rfl, hb3⟩
    have hb03 := hb02.trans (hb3.mono hb02.size)
    have hrd3 := (hrd2.below hb3).more hb3.size
    rw [hr]
    clear hb02 hb3 hrd2
    obtain ⟨p, hp⟩ : ∃ p, p = M.enc l := ⟨_, rfl⟩
    rw [← hp] at HO HREF HRD HD0 HD1 hrd3 hc2 ⊢
    clear hp HO
    go_wp2_with fail
    go_region_held (fun W => (convert 24 9 (.slice A2 p.length c2)).run Try.prog W = .ok (.string ⟨p.toArray⟩) W)
      (first
        | exact hHeld
        | exact run_str (P := Try.prog) _ _ 24 9 5 Try.underlying24 Try.underlying5 Try.underlying9 _ _ _ _ hrd3.drew
        | exact run_str (P := Try.prog) _ _ 24 9 5 Try.underlying24 Try.underlying5 Try.underlying9 _ _ _ _ hk4)
      (first
        | (go_at_call 11; refine (HREF.out _ (bel_drewN hb03 1)).mono ?_; rintro e w4 ⟨q, rfl, hown4, hb4⟩; obtain ⟨A4, c4, rfl, hrd4⟩ := hown4.open_; have hk4 := hrd3.drew.below hb4; have hs4 := run_str (P := Try.prog) w4 _ 24 9 5 Try.underlying24 Try.underlying5 Try.underlying9 A4 _ c4 _ hrd4))
    have HB4 := Lib.hid (hb03.trans ((below_undrew hb4).mono hb03.size))
    have HP4 := Lib.hid (show Rd w4 w4.heap.size A2 p.length c2 p from hk4.more hb4.size)
    clear hk4 hs4 hrd4 hown4 hb4 hb03 hrd3
    have HDEC := Lib.hid (fun (W : World) (hb : Below w4.heap.size w4 W) (below : Int) (h3 : -9223372036854775808 ≤ below) (h4 : below ≤ 9223372036854775807) =>
      decode_any A2 p.length c2 p 0 below W ((HP4.out.below hb).more hb.size) (by omega) (by omega) h3 h4 (.inl (by rw [HRD.out]; have := HN.out; omega)))
    by_cases hn0 : n = 0
    · obtain rfl : l = [] := List.eq_nil_of_length_eq_zero (by have := HN.out; omega)
      have HD := Lib.hid (HD0.out (more : Int) (by simp) (by omega) (by omega))
      subst hn0
      go_wp2_with fail
      refine (HDEC.out w4 (Below.refl _ _) (more : Int) (by omega) (by omega)).mono ?_
      rintro e w5 ⟨v5, rfl, ho5, hb5⟩
      rw [HD.out] at ho5 ⊢
      obtain ⟨A5, n5, c5, rfl, HN5, hc5, hm5⟩ := own_form ho5
      obtain rfl : n5 = 0 := HN5.out
      have HB5 := Lib.hid (HB4.out.trans (hb5.mono HB4.out.size))
      clear ho5 hb5
      generalize p.length = m at *
      go_wp2
      go_ret
      exact ⟨rfl, HB5.out⟩
    · obtain ⟨k, rfl⟩ : ∃ k, n = k + 1 := ⟨n - 1, by omega⟩
      obtain ⟨g, off, x, rfl, hg, hcell, _, hat, hmem⟩ := int_at (HR.out.on HB4.out) (show k < k + 1 by omega)
      have HM := Lib.hid (HMAX.out k x HN.out.symm hat)
      have hx1 := HPOS.out x hmem
      have HMEM := Lib.hid hmem
      have hkx := HK.out x hmem
      have hkx2 := hkx.2
      clear hat hmem hkx
      by_cases hbig : 1099511627776 < x
      · go_wp2
        go_ret
        exact ⟨rfl, HB4.out⟩
      · have hq : decide (1099511627776 < x) = false := by simpa using hbig
        have HDa := Lib.hid (HD0.out (x + 1 + (more : Int)) (fun y hy => by have := HM.out y hy; omega) (by omega) (by omega))
        have HDb := Lib.hid (HD1.out x ⟨x, HMEM.out, by omega⟩)
        go_wp2_with fail
        refine (HDEC.out w4 (Below.refl _ _) (x + 1 + (more : Int)) (by omega) (by omega)).mono ?_
        rintro e w5 ⟨v5, rfl, ho5, hb5⟩
        rw [HDa.out] at ho5 ⊢
        obtain ⟨A5, n5, c5, rfl, HN5, hc5, hm5⟩ := own_form ho5
        have HR5 := Lib.hid (show Reads w5 A5 n5 c5 l from ho5.rd)
        have HB5 := Lib.hid hb5
        clear ho5 hb5 hcell
        go_wp2_with fail
        refine (HDEC.out w5 HB5.out x (by omega) (by omega)).mono ?_
        rintro e w6 ⟨v6, rfl, ho6, hb6⟩
        rw [HDb.out] at ho6 ⊢
        obtain ⟨A6, n6, c6, rfl, HN6, hc6, hm6⟩ := own_form ho6
        have HR6 := Lib.hid (HR5.out.on hb6)
        have hb46 := HB5.out.trans (hb6.mono HB5.out.size)
        have hb06 := HB4.out.trans (hb46.mono HB4.out.size)
        have HA6 := Lib.hid (HR.out.on hb06)
        have HB6 := Lib.hid hb06
        clear ho6 hb6 hb46 hb06
        go_wp2_with fail
        refine (same_any A5 n5 c5 _ l _ (k + 1) c _ l w6 HR6.out HA6.out).mono ?_
        rintro e w7 ⟨rfl, hb7⟩
        have HB7 := Lib.hid (HB6.out.trans (hb7.mono HB6.out.size))
        rw [show decide (l = l) = true from by simp]
        clear hb7
        generalize p.length = m at *
        go_wp2
        go_ret
        exact ⟨rfl, HB7.out⟩
end Go.Proofs.Ytpcodknhjobmdaa
