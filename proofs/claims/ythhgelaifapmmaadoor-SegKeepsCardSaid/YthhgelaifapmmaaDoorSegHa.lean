/-
  What the law's holds does where a segment holds just these entries, by a contract.
-/
import Derived.Test.YthhgelaifapmmaaDoorSegY
import Derived.Laws.StructEq
namespace Go.Proofs.YthhgelaifapmmaaDoor
open Go.RowKit Mem Go.ChangeShapes Go.Sort
set_option linter.unusedVariables false
set_option maxRecDepth 100000

/-- what a round of holds reads: an entry, as it was told and as it is -/
def HdS (w1 : World) (gd db o : Nat) (d : M.D) (W : World) : Prop :=
  W.cell? ⟨gd, 0, none⟩ = some (.string ⟨d.id.toArray⟩) ∧ W.cell? ⟨gd, 1, none⟩ = some (.int .i64 d.time) ∧ W.cell? ⟨gd, 2, none⟩ = some (.string ⟨d.text.toArray⟩) ∧
  W.cell? ⟨db, o, none⟩ = some (.string ⟨d.id.toArray⟩) ∧ W.cell? ⟨db, o + 1, none⟩ = some (.int .i64 d.time) ∧ W.cell? ⟨db, o + 2, none⟩ = some (.string ⟨d.text.toArray⟩) ∧ Below w1.heap.size w1 W
/-- .. a term, as it was told and as it is -/
def HtS (w1 : World) (b1 o1 b2 o2 : Nat) (t : List UInt8) (W : World) : Prop :=
  W.cell? ⟨b1, o1, none⟩ = some (.string ⟨t.toArray⟩) ∧ W.cell? ⟨b2, o2, none⟩ = some (.string ⟨t.toArray⟩) ∧ Below w1.heap.size w1 W
theorem HtS.on {w1 W W' : World} {b1 o1 b2 o2 : Nat} {t : List UInt8} (h : HtS w1 b1 o1 b2 o2 t W) (hb : Below W.heap.size W W') : HtS w1 b1 o1 b2 o2 t W' := ⟨cell_on hb h.1, cell_on hb h.2.1, h.2.2.trans (hb.mono h.2.2.size)⟩

set_option maxHeartbeats 8000000 in
theorem holds_any (g base : Nat) (A : Option Addr) (n c : Nat) (ds : List M.D) (w : World) (hS : SegAt w base g ds) (h : RdDocs w w.heap.size A n c ds) (hn : n ≤ 4096) (htx : ∀ d ∈ ds, d.text.length ≤ 512) (hT : Tabs w) :
    Calls Tryd.prog 15 #[.pointer (some ⟨g, 0, none⟩), .slice A n c] w (SaysB true w) := by
  have H := Lib.hid h; have HN := Lib.hid h.1; have HTX := Lib.hid htx; have HT := Lib.hid hT; have HS := Lib.hid hS
  have hc := h.2.1; have hcm := h.2.2.1
  have HDL := Lib.hid (show ds.length ≤ 4096 by have := h.1; omega)
  have HTE := Lib.hid (segTerms_any g _ ds w hS)
  have HLN := Lib.hid (fun (W : World) (hW : Below w.heap.size w W) => segLen_any g base ds W (hS.on hW))
  rw [← HN.out] at HLN
  have HDO := Lib.hid (fun (i : Int) (W : World) (hW : Below w.heap.size w W) => segDoc_any g base ds i W (hS.on hW))
  have HKEY := Lib.hid (show ∀ t ∈ M.keys ds, t.length ≤ 65 from fun t ht => by
    obtain ⟨d, hd, hdt⟩ := M.mem_posts.1 (M.mem_keys.1 ht)
    exact M.terms_short _ t hdt)
  clear h htx hT hS
  go_enter Tryd.func15, Tryd.ntmps15
  go_wp2_with fail
  refine HTE.out.mono ?_
  rintro e w1 ⟨A1, c1, rfl, hr1, hb1, -⟩
  obtain ⟨nk, hnk⟩ : ∃ nk, (M.keys ds).length = nk := ⟨_, rfl⟩
  have HNK := Lib.hid hnk
  rw [hnk] at hr1 ⊢
  have hc1 := hr1.2.1; have hm1 := hr1.max
  have HR1 := Lib.hid hr1
  have HB1 := Lib.hid hb1
  have HTR := Lib.hid (refTerms_any A n c ds w1 (H.out.on hb1) hn HTX.out (HT.out.below hb1))
  clear hnk hr1 hb1 HTE
  go_wp2_with fail
  refine HTR.out.mono ?_
  rintro e w2 ⟨A2, c2, rfl, hr2, hb2, -⟩
  rw [HNK.out] at hr2 ⊢
  have hc2 := hr2.2.1; have hm2 := hr2.max
  have HR2 := Lib.hid hr2
  have HR12 := Lib.hid (HR1.out.below hb2)
  have HS12 := Lib.hid hb2.size
  have HB2 := Lib.hid (HB1.out.trans (hb2.mono HB1.out.size))
  clear hr2 hb2 HTR
  go_wp2_with fail
  refine (HLN.out _ HB2.out).mono ?_
  rintro e w2 ⟨rfl, hx⟩
  subst hx
  go_wp2
  go_loopw [7] (fun p wr => ∃ i : Nat, p = .int .i64 i ∧ i ≤ n ∧ Hid (Below w2.heap.size w2 wr)) (fun p _ => n - (intOf p).toNat)
  case atStart => exact ⟨0, rfl, Nat.zero_le _, Lib.hid (Below.refl _ _)⟩
  case round =>
    obtain ⟨i, rfl, hi, HBr⟩ := hrel
    rename World => wr
    have HBW := Lib.hid (HB2.out.trans (HBr.out.mono HB2.out.size))
    by_cases hlt : i < n
    · have hkx : i < ds.length := by have := HN.out; omega
      obtain ⟨db, off, rfl, hdb, hcells⟩ := H.out.2.2.2 (by omega)
      obtain ⟨q0, q1, q2⟩ := hcells i hkx
      have hil : (i : Int) < (n : Int) := by omega
      have HD := Lib.hid (HDO.out (i : Int) wr HBW.out)
      rw [dif_pos ⟨by omega, by simpa using hkx⟩] at HD
      simp only [Int.toNat_natCast] at HD
      have HC0 := Lib.hid q0; have HC1 := Lib.hid q1; have HC2 := Lib.hid q2
      clear hcells q0 q1 q2
      generalize ds[i] = d at *
      obtain ⟨did, dtm, dtx⟩ := d
      unfold TellsE dval at HD
      simp only at HD HC0 HC1 HC2
      go_wp2_with fail
      refine HD.out.mono ?_
      rintro e w3 ⟨rfl, hb3⟩
      have HB3 := Lib.hid (HBW.out.trans (hb3.mono HBW.out.size))
      have HBr3 := Lib.hid (HBr.out.trans (hb3.mono HBr.out.size))
      obtain ⟨w4, hw4⟩ : ∃ w4, w4 = w3.alloc (.cells #[.string ⟨did.toArray⟩, .int .i64 dtm, .string ⟨dtx.toArray⟩] 52) := ⟨_, rfl⟩
      have hb4 : Below w3.heap.size w3 w4 := by rw [hw4]; exact (Below.refl _ _).alloc (Nat.le_refl _) _
      have HB4 := Lib.hid (HB3.out.trans (hb4.mono HB3.out.size))
      have HBr4 := Lib.hid (HBr3.out.trans (hb4.mono HBr3.out.size))
      obtain ⟨y0, y1, y2⟩ := (show DocIn w4 w3.heap.size ⟨did, dtm, dtx⟩ by rw [hw4]; exact DocIn.new w3 ⟨did, dtm, dtx⟩).cells
      have HV := Lib.hid (show HdS w4 w3.heap.size db (off + i * 3) ⟨did, dtm, dtx⟩ w4.drew from ⟨y0, y1, y2, cell_on HB4.out HC0.out, cell_on HB4.out HC1.out, cell_on HB4.out HC2.out, ⟨rfl, rfl, rfl, Nat.le_refl _, fun _ _ => rfl⟩⟩)
      subst hw4
      clear hb3 hb4 y0 y1 y2 HD
      go_wp2_with fail
      go_region_held3 (fun W => W.cell? ⟨w3.heap.size, 0, none⟩ = some (.string ⟨did.toArray⟩) ∧ W.cell? ⟨w3.heap.size, 1, none⟩ = some (.int .i64 dtm) ∧ W.cell? ⟨w3.heap.size, 2, none⟩ = some (.string ⟨dtx.toArray⟩) ∧
          W.cell? ⟨db, off + i * 3, none⟩ = some (.string ⟨did.toArray⟩) ∧ W.cell? ⟨db, off + i * 3 + 1, none⟩ = some (.int .i64 dtm) ∧ W.cell? ⟨db, off + i * 3 + 2, none⟩ = some (.string ⟨dtx.toArray⟩) ∧ Below (w3.alloc (.cells #[.string ⟨did.toArray⟩, .int .i64 dtm, .string ⟨dtx.toArray⟩] 52)).heap.size (w3.alloc (.cells #[.string ⟨did.toArray⟩, .int .i64 dtm, .string ⟨dtx.toArray⟩] 52)) W)
        (first | exact hHeld | exact HV.out)
        (fail)
      go_wp2
      go_roundw
      case rel => exact ⟨i + 1, by go_num, by omega, Lib.hid (bel_drewN HBr4.out 1)⟩
      case measure => simp [intOf]; omega
    · have HR1r := Lib.hid (HR12.out.below (HBr.out.mono HS12.out))
      have HR2r := Lib.hid (HR2.out.below HBr.out)
      have HSr := Lib.hid HBr.out.size
      clear HR12 HR2 HBr
      go_wp2
      go_loopw [10] (fun p wi => ∃ i : Nat, p = .int .i64 i ∧ i ≤ nk ∧ Hid (Below wr.heap.size wr wi)) (fun p _ => nk - (intOf p).toNat)
      case atStart => exact ⟨0, rfl, Nat.zero_le _, Lib.hid (Below.refl _ _)⟩
      case round =>
        obtain ⟨k, rfl, hk, HBi⟩ := hrel
        rename World => wi
        have HBD := Lib.hid (fun (W : World) (hW : Below wi.heap.size wi W) => HBW.out.trans ((HBi.out.trans (hW.mono HBi.out.size)).mono HBW.out.size))
        by_cases hlt2 : k < nk
        · have hkx : k < (M.keys ds).length := by rw [HNK.out]; exact hlt2
          obtain ⟨b1, o1, rfl, hlb1, q1⟩ := (HR1r.out.below (HBi.out.mono (Nat.le_trans HS12.out HSr.out))).at_ hlt2
          obtain ⟨b2, o2, rfl, hlb2, q2⟩ := (HR2r.out.below (HBi.out.mono HSr.out)).at_ hlt2
          rw [strs_at hkx] at q1 q2
          have hk1 := HKEY.out _ (List.getElem_mem hkx)
          have hil : (k : Int) < (nk : Int) := by omega
          generalize (M.keys ds)[k] = t at *
          have HP1 := Lib.hid (fun (W : World) (hW : Below wi.heap.size wi W) => segPosts_any g _ ds t W (HS.out.on (HBD.out _ hW)) (by omega) (by have := HDL.out; omega))
          have HP2 := Lib.hid (fun (W : World) (hW : Below wi.heap.size wi W) => refPosts_any A n c ds t W (H.out.on (HBD.out _ hW)) hn HTX.out (HT.out.below (HBD.out _ hW)))
          generalize M.posts ds t = ps at *
          have HSM := Lib.hid (fun (W : World) (Aa Ab : Option Addr) (ca cb Ba Bb : Nat) (ha : RdV W Ba Aa ps.length ca (ints ps)) (hb : RdV W Bb Ab ps.length cb (ints ps)) => same_any Aa ps.length ca Ba ps Ab ps.length cb Bb ps W ha hb)
          rw [show decide (ps = ps) = true from by simp] at HSM
          have HV := Lib.hid (show HtS wi b1 (o1 + k) b2 (o2 + k) t wi.drew from ⟨q1, q2, ⟨rfl, rfl, rfl, Nat.le_refl _, fun _ _ => rfl⟩⟩)
          have htt : (t == t) = true := by simp
          clear q1 q2 hk1
          go_wp2_with fail
          go_region_held3 (fun W => W.cell? ⟨b1, o1 + k, none⟩ = some (.string ⟨t.toArray⟩) ∧ W.cell? ⟨b2, o2 + k, none⟩ = some (.string ⟨t.toArray⟩) ∧ Below wi.heap.size wi W)
            (first | exact hHeld | exact HV.out | exact hV7 | exact hV8 | exact hV9)
            (first
              | (go_at_call 22; refine (HP1.out _ HV.out.2.2).mono ?_; rintro e w7 ⟨v7, rfl, hO7, hb7⟩; obtain ⟨A7, c7, hv7, hc7, hm7⟩ := hO7.form; subst hv7; rw [ints_len] at hc7 ⊢; have hR7 := OwnV.rd hO7; rw [ints_len] at hR7; have hV7 := HV.out.on hb7)
              | (go_at_call 26; refine (HP2.out _ hV7.2.2).mono ?_; rintro e w8 ⟨v8, rfl, hO8, hb8⟩; obtain ⟨A8, c8, hv8, hc8, hm8⟩ := hO8.form; subst hv8; rw [ints_len] at hc8 ⊢; have hR8 := OwnV.rd hO8; rw [ints_len] at hR8; have hV8 := hV7.on hb8)
              | (go_at_call 18; refine (HSM.out _ _ _ _ _ _ _ (hR7.below hb8) hR8).mono ?_; rintro e w9 ⟨rfl, hb9⟩; have hV9 := hV8.on hb9))
          all_goals
            have HB9 := Lib.hid (HBi.out.trans (hV9.2.2.mono HBi.out.size))
            clear hV9 hV8 hV7 hb9 hb8 hb7 hO7 hO8 hR7 hR8
            go_wp2
            go_roundw
            case rel => exact ⟨k + 1, by go_num, by omega, HB9⟩
            case measure => simp [intOf]; omega
        · have HD1 := Lib.hid (HDO.out (n : Int) wi (HBD.out _ (Below.refl _ _)))
          rw [dif_neg (by have := HN.out; simp; omega)] at HD1
          have HD2 := Lib.hid (show ∀ (W : World), Below wi.heap.size wi W → Calls Tryd.prog 23 #[.pointer (some ⟨g, 0, none⟩), .int .i64 (-1)] W (TellsE ⟨[], 0, []⟩ 8 W) from fun W hW => by
            have := HDO.out (-1) W (HBD.out _ hW)
            rwa [dif_neg (by omega)] at this)
          unfold TellsE dval at HD1 HD2
          simp only at HD1 HD2
          go_wp2_with fail
          refine HD1.out.mono ?_
          rintro e w3 ⟨rfl, hb3⟩
          have HB3 := Lib.hid (hb3.alloc hb3.size (.cells #[.string ⟨#[]⟩, .int .i64 0, .string ⟨#[]⟩] 52))
          clear hb3
          go_wp2_with fail
          refine (HD2.out _ HB3.out).mono ?_
          rintro e w4 ⟨rfl, hb4⟩
          have HB4 := Lib.hid (HBD.out _ (HB3.out.trans (hb4.mono HB3.out.size)))
          clear hb4
          go_wp2
          go_ret
          exact ⟨rfl, HB4.out.alloc HB4.out.size _⟩
end Go.Proofs.YthhgelaifapmmaaDoor
