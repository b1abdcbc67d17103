/-
  The law SegTerms, by the contracts.
-/
import Derived.Test.YthhgelaifapmmaaDoorSegW
namespace Go.Proofs.YthhgelaifapmmaaDoor
open Go.RowKit Mem Go.ChangeShapes Go.Sort
set_option linter.unusedVariables false
set_option maxRecDepth 100000

theorem finds_word (ds : List M.D) (t : List UInt8) (z : Int) (A : Option Addr) (n c : Nat) (ks : List Q) : finds ds (.mk 1 t z A n c ks) = M.posts ds t := by
  obtain ⟨f1, f2, f3⟩ := posts_fit ds t
  refine M.rise_ext _ _ (-1) (rise_filter _ _ _ (allN_fine ds).1) f1 fun x => ?_
  unfold finds
  rw [List.mem_filter]
  constructor
  · rintro ⟨h1, h2⟩
    refine (mem_posts_at ((allN_fine ds).nonneg x h1) ((allN_fine ds).2 x h1)).2 ?_
    unfold hasAt at h2
    rw [Q.has1] at h2
    exact of_decide_eq_true h2
  · intro h
    obtain ⟨h0, h1⟩ := f3 x h
    refine ⟨List.mem_map.2 ⟨x.toNat, List.mem_range.2 (by omega), by show (x.toNat : Int) = x; omega⟩, ?_⟩
    unfold hasAt
    rw [Q.has1]
    exact decide_eq_true ((mem_posts_at h0 h1).1 h)

set_option maxHeartbeats 8000000 in
theorem segTermsLaw_any (A : Option Addr) (n c : Nat) (ds : List M.D) (w : World) (h : RdDocs w w.heap.size A n c ds) (htm : ∀ d ∈ ds, -9223372036854775808 ≤ d.time ∧ d.time ≤ 9223372036854775807) (hT : Tabs w) :
    Calls Tryd.prog 8 #[.slice A n c] w (SaysB true w) := by
  have H := Lib.hid h; have HN := Lib.hid h.1; have HTM := Lib.hid htm; have HT := Lib.hid hT
  have hc := h.2.1; have hcm := h.2.2.1
  have HAW := Lib.hid (fun (W : World) (hb : Below w.heap.size w W) => awake9_any W (HT.out.below hb))
  have HFO := Lib.hid (fun (W : World) (hb : Below w.heap.size w W) => ref_forms_any A n c ds W (H.out.on hb))
  have HB2 := Lib.hid (Below.refl w.heap.size w)
  clear h htm hT
  go_enter Tryd.func8, Tryd.ntmps8
  go_wp2_with fail
  refine (HAW.out _ HB2.out).mono ?_
  rintro e w3 ⟨rfl, hb3⟩
  have HB3 := Lib.hid (HB2.out.trans (hb3.mono HB2.out.size))
  clear hb3 HB2
  go_wp2_with fail
  refine (HFO.out _ HB3.out).mono ?_
  rintro e w4 ⟨rfl, hb4⟩
  have HB4 := Lib.hid (HB3.out.trans (hb4.mono HB3.out.size))
  clear hb4 HB3 HFO
  cases hfo : (ds.all fun d => M.formB d.id d.text) with
  | false =>
    go_wp2_with fail
    refine (HAW.out _ HB4.out).mono ?_
    rintro e w5 ⟨rfl, hb5⟩
    have HB5 := Lib.hid (HB4.out.trans (hb5.mono HB4.out.size))
    clear hb5
    go_wp2
    go_ret
    exact ⟨rfl, HB5.out⟩
  | true =>
    by_cases h20 : 20 < n
    · have h20' : (20 : Int) < (n : Int) := by omega
      go_wp2_with fail
      refine (HAW.out _ HB4.out).mono ?_
      rintro e w5 ⟨rfl, hb5⟩
      have HB5 := Lib.hid (HB4.out.trans (hb5.mono HB4.out.size))
      clear hb5
      go_wp2
      go_ret
      exact ⟨rfl, HB5.out⟩
    · have h20' : ¬ (20 : Int) < (n : Int) := by omega
      have hse : segErr ds = 0 := by unfold segErr; rw [if_neg (by have := HN.out; omega), hfo]; rfl
      have HSE := Lib.hid hse
      have HFT := Lib.hid (show ∀ d ∈ ds, Fits d from fun d hd => fits_of ((segErr_ok hse).2 d hd) (HTM.out d hd))
      have HFW := Lib.hid (segBytes_few (ds := ds) (by have := HN.out; omega) HFT.out)
      have HOB := Lib.hid (M.segOpen_bytes ds hse HTM.out)
      have HBU := Lib.hid (build_any A n c ds w4 (H.out.on HB4.out) HTM.out (HT.out.below HB4.out))
      clear hfo hse HAW
      go_wp2_with fail
      refine HBU.out.mono ?_
      rintro e w5 ⟨hb5, hcase⟩
      obtain ⟨v5, rfl, hO5⟩ := hcase.elim (fun h => h.2) (fun h => absurd HSE.out h.1)
      have HB5 := Lib.hid (HB4.out.trans (hb5.mono HB4.out.size))
      obtain ⟨A5, c5, hv5, hr5⟩ := hO5.open_
      subst hv5
      have HOP := Lib.hid (open_any A5 _ c5 (M.segBytes ds) w5 hr5 HFW.out (HT.out.below HB5.out))
      rw [HOB.out] at HOP
      clear hb5 hcase hO5 hr5 HBU
      generalize (M.segBytes ds).length = n5 at *
      go_wp2_with fail
      refine HOP.out.mono ?_
      rintro e w6 ⟨v6, rfl, hb6, -, hg⟩
      obtain ⟨g, rfl, hsg⟩ := hg rfl
      have HB6 := Lib.hid (HB5.out.trans (hb6.mono HB5.out.size))
      have HSG := Lib.hid hsg
      clear hb6 hg hsg HOP
      have HDL := Lib.hid (show ds.length ≤ 4096 by have := HN.out; omega)
      have HTX := Lib.hid (show ∀ d ∈ ds, d.text.length ≤ 512 from fun d hd => (HFT.out d hd).2.1)
      have HTE := Lib.hid (segTerms_any g _ ds w6 HSG.out)
      have HKEY := Lib.hid (show ∀ t ∈ M.keys ds, t.length ≤ 65 ∧ M.posts ds t ≠ [] from fun t ht => by
        obtain ⟨d, hd, hdt⟩ := M.mem_posts.1 (M.mem_keys.1 ht)
        exact ⟨M.terms_short _ t hdt, M.mem_keys.1 ht⟩)
      go_wp2_with fail
      refine HTE.out.mono ?_
      rintro e w7 ⟨A7, c7, rfl, hr7, hb7, -⟩
      obtain ⟨nk, hnk⟩ : ∃ nk, (M.keys ds).length = nk := ⟨_, rfl⟩
      have HNK := Lib.hid hnk
      rw [hnk] at hr7 ⊢
      have hc7 := hr7.2.1; have hm7 := hr7.max
      have HR7 := Lib.hid hr7
      have HB7 := Lib.hid (HB6.out.trans (hb7.mono HB6.out.size))
      have HSG7 := Lib.hid (HSG.out.on hb7)
      have HBD := Lib.hid (fun (W : World) (hW : Below w7.heap.size w7 W) => HB7.out.trans (hW.mono HB7.out.size))
      clear hnk hr7 hb7 HTE HSG
      go_wp2
      go_loopw [8] (fun p wr => ∃ i : Nat, p = .int .i64 i ∧ i ≤ nk ∧ Hid (Below w7.heap.size w7 wr)) (fun p _ => nk - (intOf p).toNat)
      case atStart => exact ⟨0, rfl, Nat.zero_le _, Lib.hid (Below.refl _ _)⟩
      case round =>
        obtain ⟨i, rfl, hi, HBr⟩ := hrel
        rename World => wr
        by_cases hlt : i < nk
        · have hkx : i < (M.keys ds).length := by rw [HNK.out]; exact hlt
          obtain ⟨tb, off, rfl, htb, q⟩ := (HR7.out.below HBr.out).at_ hlt
          rw [strs_at hkx] at q
          obtain ⟨hk1, hk2⟩ := HKEY.out _ (List.getElem_mem hkx)
          have hil : (i : Int) < (nk : Int) := by omega
          generalize (M.keys ds)[i] = t at *
          have HF1 := Lib.hid (segFind_any g _ ds (.mk 1 t 0 none 0 0 []) wr (HSG7.out.on HBr.out) (HT.out.below (HBD.out _ HBr.out)) HDL.out HTX.out (leaf_ok _ _ 1 t 0 (by omega) (by omega)) (.mk (by omega) (fun q h => by simp at h)))
          rw [finds_word] at HF1
          have HP1 := Lib.hid (fun (W : World) (hW : Below w7.heap.size w7 W) => segPosts_any g _ ds t W (HSG7.out.on hW) (by omega) (by have := HDL.out; omega))
          have HP2 := Lib.hid (fun (W : World) (hW : Below w7.heap.size w7 W) => refPosts_any A n c ds t W (H.out.on (HBD.out _ hW)) (by omega) HTX.out (HT.out.below (HBD.out _ hW)))
          generalize M.posts ds t = ps at *
          have hps : 0 < ps.length := by cases ps with | nil => exact absurd rfl hk2 | cons => simp
          have hq0 : ((ps.length : Int) == 0) = false := by simp; omega
          have HSM := Lib.hid (fun (W : World) (Aa Ab : Option Addr) (ca cb Ba Bb : Nat) (ha : RdV W Ba Aa ps.length ca (ints ps)) (hb : RdV W Bb Ab ps.length cb (ints ps)) => same_any Aa ps.length ca Ba ps Ab ps.length cb Bb ps W ha hb)
          rw [show decide (ps = ps) = true from by simp] at HSM
          unfold Q.val at HF1
          simp only at HF1
          clear hk1 hk2 hps
          go_wp2_with fail
          refine HF1.out.mono ?_
          rintro e w8 ⟨v8, rfl, hO8, hb8⟩
          obtain ⟨A8, c8, hv8, hc8, hm8⟩ := hO8.form
          subst hv8
          rw [ints_len] at hc8 ⊢
          have hR8 := OwnV.rd hO8
          rw [ints_len] at hR8
          have HR8 := Lib.hid hR8
          have HB8 := Lib.hid (HBr.out.trans (hb8.mono HBr.out.size))
          have q8 := cell_on hb8 q
          clear hR8 hO8 hb8 HF1 q
          go_wp2_with fail
          refine (HP1.out _ HB8.out).mono ?_
          rintro e w9 ⟨v9, rfl, hO9, hb9⟩
          obtain ⟨A9, c9, hv9, hc9, hm9⟩ := hO9.form
          subst hv9
          rw [ints_len] at hc9 ⊢
          have hR9 := OwnV.rd hO9
          rw [ints_len] at hR9
          have HR9 := Lib.hid hR9
          have HR89 := Lib.hid (HR8.out.below hb9)
          have HB9 := Lib.hid (HB8.out.trans (hb9.mono HB8.out.size))
          have HS89 := Lib.hid hb9.size
          have q9 := cell_on hb9 q8
          clear hR9 hO9 hb9 HP1 q8
          go_wp2_with fail
          refine (HSM.out _ _ _ _ _ _ _ HR89.out HR9.out).mono ?_
          rintro e w10 ⟨rfl, hb10⟩
          have HR810 := Lib.hid (HR89.out.below (hb10.mono HS89.out))
          have HB10 := Lib.hid (HB9.out.trans (hb10.mono HB9.out.size))
          have HS810 := Lib.hid (Nat.le_trans HS89.out hb10.size)
          have q10 := cell_on hb10 q9
          clear hb10 q9
          go_wp2_with fail
          refine (HP2.out _ HB10.out).mono ?_
          rintro e w11 ⟨v11, rfl, hO11, hb11⟩
          obtain ⟨A11, c11, hv11, hc11, hm11⟩ := hO11.form
          subst hv11
          rw [ints_len] at hc11 ⊢
          have hR11 := OwnV.rd hO11
          rw [ints_len] at hR11
          have HR11 := Lib.hid hR11
          have HR811 := Lib.hid (HR810.out.below (hb11.mono HS810.out))
          have HB11 := Lib.hid (HB10.out.trans (hb11.mono HB10.out.size))
          clear hR11 hO11 hb11 HP2 q10
          go_wp2_with fail
          refine (HSM.out _ _ _ _ _ _ _ HR811.out HR11.out).mono ?_
          rintro e w12 ⟨rfl, hb12⟩
          have HB12 := Lib.hid (HB11.out.trans (hb12.mono HB11.out.size))
          clear hb12
          go_wp2
          go_roundw
          case rel => exact ⟨i + 1, by go_num, by omega, HB12⟩
          case measure => simp [intOf]; omega
        · have HP := Lib.hid (segPosts_any g _ ds M.noTerm wr (HSG7.out.on HBr.out) (by decide) (by have := HDL.out; omega))
          rw [M.noTerm_posts] at HP
          unfold M.noTerm at HP
          go_wp2_with fail
          refine HP.out.mono ?_
          rintro e w8 ⟨v8, rfl, hO8, hb8⟩
          obtain ⟨A8, c8, hv8, hc8, hm8⟩ := hO8.form
          subst hv8
          rw [ints_len] at hc8 ⊢
          simp only [List.length_nil] at hc8 ⊢
          have HB8 := Lib.hid (HBD.out _ (HBr.out.trans (hb8.mono HBr.out.size)))
          clear hO8 hb8
          go_wp2
          go_ret
          exact ⟨rfl, HB8.out⟩
end Go.Proofs.YthhgelaifapmmaaDoor
