/-
  The law SegKeeps, by the contracts.
-/
import Derived.Test.YthhgelaifapmmaaDoorSegHe
namespace Go.Proofs.YthhgelaifapmmaaDoor
open Go.RowKit Mem Go.ChangeShapes Go.Sort
set_option linter.unusedVariables false
set_option maxRecDepth 100000

/-- the row of terms, of which the first k are written over -/
def TRow (W : World) (hi : Nat) (A : Option Addr) (k : Nat) (ks : List (List UInt8)) : Prop :=
  ∀ gt, A = some ⟨gt, 0, none⟩ → 0 < ks.length → hi ≤ gt ∧ gt < W.heap.size ∧ (∀ j (hj : j < ks.length), k ≤ j → W.cell? ⟨gt, j, none⟩ = some (.string ⟨(ks[j]).toArray⟩)) ∧ (∀ j, j < ks.length → W.frozen? ⟨gt, j, none⟩ = false)
theorem TRow.on {W W' : World} {hi k : Nat} {A : Option Addr} {ks : List (List UInt8)} (h : TRow W hi A k ks) (hb : Below W.heap.size W W') : TRow W' hi A k ks := fun gt e h0 => by
  obtain ⟨h1, h2, h3, h4⟩ := h gt e h0
  exact ⟨h1, Nat.lt_of_lt_of_le h2 hb.size, fun j hj hk => cell_on hb (h3 j hj hk), fun j hj => (hb.frozen (p := ⟨gt, j, none⟩) h2).trans (h4 j hj)⟩
theorem TRow.put {W : World} {hi k gt : Nat} {ks : List (List UInt8)} (h : TRow W hi (some ⟨gt, 0, none⟩) k ks) (u : Value) : TRow (W.setCell ⟨gt, k, none⟩ u) hi (some ⟨gt, 0, none⟩) (k + 1) ks := fun gt' e h0 => by
  injection e with e
  injection e with e
  subst e
  obtain ⟨h1, h2, h3, h4⟩ := h gt rfl h0
  refine ⟨h1, by simpa [World.setCell] using h2, fun j hj hk => ?_, fun j hj => (World.frozen?_setCell _ _ _ _).trans (h4 j hj)⟩
  rw [World.cell?_setCell_other _ _ _ _ (fun e => by injection e with _ e; omega)]
  exact h3 j hj (by omega)
/-- numbers in memory of their own may be written over: what is laid in a round -/
theorem ints_put {W : World} {B g c : Nat} {l : List Int} {n : Nat} (h : OwnV W B 3 (.slice (some ⟨g, 0, none⟩) n c) (ints l)) (hl : l.length = n) (j : Nat) (x : Int) :
    OwnV (W.setCell ⟨g, j, none⟩ (.int .i64 x)) B 3 (.slice (some ⟨g, 0, none⟩) n c) (ints (l.set j x)) ∧ W.frozen? ⟨g, j, none⟩ = false ∧ (j < n → ∃ u, W.cell? ⟨g, j, none⟩ = some u) ∧ B ≤ g := by
  have hrow : W.ownsRow B 3 1 (.slice (some ⟨g, 0, none⟩) n c) n (ints l) := by
    have := h
    unfold OwnV at this
    rw [ints_len, hl] at this
    exact this
  have hst := (World.ownsRow.stored hrow j (.int .i64 x)).1
  refine ⟨?_, World.ownsRow.frozenAt hrow j, fun hj => ⟨_, (World.ownsRow.cellAt hrow j (by omega)).trans (ints_at (by omega))⟩, (h.lt g rfl).1⟩
  unfold OwnV
  rw [ints_len, List.length_set, hl]
  have e : ints (l.set j x) = (ints l).set j (.int .i64 x) := by simp [ints, List.map_set]
  rw [e]
  exact hst
theorem ints_some {W : World} {B n c : Nat} {A : Option Addr} {l : List Int} (h : OwnV W B 3 (.slice A n c) (ints l)) (hn : 0 < n) (hl : l.length = n) : ∃ g, A = some ⟨g, 0, none⟩ := by
  rcases h.2 with ⟨_, h0⟩ | ⟨g, cap, cur, h1, _⟩
  · rw [ints_len] at h0; omega
  · injection h1 with e1 _ _
    exact ⟨g, e1⟩
theorem bytes_grown {W : World} {B g n c : Nat} {l : List UInt8} (h : Own W B 5 (.slice (some ⟨g, 0, none⟩) n c) l) (hl : l.length = n) (j : Nat) (u : Value) : W.grownBy (W.setCell ⟨g, j, none⟩ u) (some g) := by
  have hrow : W.ownsRow B 5 1 (.slice (some ⟨g, 0, none⟩) n c) n (bcells l) := by
    have := h
    unfold Own at this
    rw [hl] at this
    exact this
  exact (World.ownsRow.stored hrow j u).2

set_option maxHeartbeats 16000000 in
theorem segKeepsLaw_any (A : Option Addr) (n c : Nat) (ds : List M.D) (q : Q) (ii : Int) (w : World) (h : RdDocs w w.heap.size A n c ds) (htm : ∀ d ∈ ds, -9223372036854775808 ≤ d.time ∧ d.time ≤ 9223372036854775807) (hT : Tabs w) (hq : Q.Ok w w.heap.size q) (hqt : Q.Short q) :
    Calls Tryd.prog 7 #[.slice A n c, q.val, .int .i64 ii] w (SaysB true w) := by
  have H := Lib.hid h; have HN := Lib.hid h.1; have HTM := Lib.hid htm; have HT := Lib.hid hT
  have hc := h.2.1; have hcm := h.2.2.1
  have HAW := Lib.hid (fun (W : World) (hb : Below w.heap.size w W) => awake9_any W (HT.out.below hb))
  have HFO := Lib.hid (fun (W : World) (hb : Below w.heap.size w W) => ref_forms_any A n c ds W (H.out.on hb))
  have HGR := Lib.hid (fun (W : World) (hb : Below w.heap.size w W) => great_any q W ((hq.on hb).more hb.size))
  have HFI := Lib.hid (fun (g base : Nat) (W : World) (hb : Below w.heap.size w W) (hS : SegAt W base g ds) (hl : ds.length ≤ 4096) (htx : ∀ d ∈ ds, d.text.length ≤ 512) => segFind_any g base ds q W hS (HT.out.below hb) hl htx ((hq.on hb).more hb.size) hqt)
  have HFN := Lib.hid (fun (W : World) => segFind_nil q W)
  clear h htm hT hq hqt
  generalize finds ds q = fa at *
  obtain ⟨k, t, z, Aq, nq, cq, ks⟩ := q
  unfold Q.val at HGR HFI HFN ⊢
  simp only at HGR HFI HFN ⊢
  obtain ⟨K, hK⟩ : ∃ K : Int, (k : Int) = K := ⟨_, rfl⟩
  rw [hK] at HGR HFI HFN ⊢
  clear hK
  obtain ⟨w1, hw1⟩ : ∃ w1, w1 = w.alloc (.cells #[.int .u8 K, .string ⟨t.toArray⟩, .int .i64 z, .slice Aq nq cq] 39) := ⟨_, rfl⟩
  have HB1 := Lib.hid (show Below w.heap.size w w1 by rw [hw1]; exact (Below.refl _ _).alloc (Nat.le_refl _) _)
  have HBX := Lib.hid (show BoxIn w1 w.heap.size K t z Aq nq cq by rw [hw1]; exact BoxIn.new w K t z Aq nq cq)
  have HW1 := Lib.hid hw1
  clear hw1
  go_enter Tryd.func7, Tryd.ntmps7
  go_wp2_with fail
  rw [← HW1.out]
  refine (HGR.out _ HB1.out).mono ?_
  rintro e w2 ⟨gr, rfl, hb2⟩
  have HBX2 := Lib.hid (HBX.out.on hb2)
  have HB2 := Lib.hid (HB1.out.trans (hb2.mono HB1.out.size))
  clear hb2 HBX HB1 HGR HW1
  cases gr with
  | true =>
    go_wp2_with fail
    refine (HAW.out _ HB2.out).mono ?_
    rintro e w3 ⟨rfl, hb3⟩
    have HB3 := Lib.hid (HB2.out.trans (hb3.mono HB2.out.size))
    clear hb3
    go_wp2
    go_ret
    exact ⟨rfl, HB3.out⟩
  | false =>
    go_wp2_with fail
    refine (HAW.out _ HB2.out).mono ?_
    rintro e w3 ⟨rfl, hb3⟩
    have HBX3 := Lib.hid (HBX2.out.on hb3)
    have HB3 := Lib.hid (HB2.out.trans (hb3.mono HB2.out.size))
    clear hb3 HBX2 HB2
    go_wp2_with fail
    refine (HFO.out _ HB3.out).mono ?_
    rintro e w4 ⟨rfl, hb4⟩
    have HBX4 := Lib.hid (HBX3.out.on hb4)
    have HB4 := Lib.hid (HB3.out.trans (hb4.mono HB3.out.size))
    clear hb4 HBX3 HB3 HFO
    cases hfo : (ds.all fun d => M.formB d.id d.text) with
    | false =>
      go_wp2_with fail
      refine (HAW.out _ HB4.out).mono ?_
      rintro e w5 ⟨rfl, hb5⟩
      have HB5 := Lib.hid (HB4.out.trans (hb5.mono HB4.out.size))
      clear hb5
      go_wp2
      go_ret
      exact ⟨rfl, HB5.out⟩
    | true =>
      by_cases h30 : 30 < n
      · have h30' : (30 : Int) < (n : Int) := by omega
        go_wp2_with fail
        refine (HAW.out _ HB4.out).mono ?_
        rintro e w5 ⟨rfl, hb5⟩
        have HB5 := Lib.hid (HB4.out.trans (hb5.mono HB4.out.size))
        clear hb5
        go_wp2
        go_ret
        exact ⟨rfl, HB5.out⟩
      · have h30' : ¬ (30 : Int) < (n : Int) := by omega
        have hse : segErr ds = 0 := by unfold segErr; rw [if_neg (by have := HN.out; omega), hfo]; rfl
        have HSE := Lib.hid hse
        have HFT := Lib.hid (show ∀ d ∈ ds, Fits d from fun d hd => fits_of ((segErr_ok hse).2 d hd) (HTM.out d hd))
        have HFW := Lib.hid (segBytes_few (ds := ds) (by have := HN.out; omega) HFT.out)
        have HOB := Lib.hid (M.segOpen_bytes ds hse HTM.out)
        have HLEN := Lib.hid (show 10 ≤ (M.segBytes ds).length by rw [M.segBytes_len]; have := M.segPre_len ds; omega)
        have HBU := Lib.hid (build_any A n c ds w4 (H.out.on HB4.out) HTM.out (HT.out.below HB4.out))
        have HDL := Lib.hid (show ds.length ≤ 4096 by have := HN.out; omega)
        have HTX := Lib.hid (show ∀ d ∈ ds, d.text.length ≤ 512 from fun d hd => (HFT.out d hd).2.1)
        clear hfo hse HAW
        go_wp2_with fail
        refine HBU.out.mono ?_
        rintro e w5 ⟨hb5, hcase⟩
        obtain ⟨v5, rfl, hO5⟩ := hcase.elim (fun h => h.2) (fun h => absurd HSE.out h.1)
        have HBX5 := Lib.hid (HBX4.out.on hb5)
        have HB5 := Lib.hid (HB4.out.trans (hb5.mono HB4.out.size))
        obtain ⟨gp, cp, hv5, hgp1, hgp2, hcp, hcpm, -⟩ := hO5.form (by have := HLEN.out; omega)
        subst hv5
        have hr5 : Rd w5 w5.heap.size (some ⟨gp, 0, none⟩) (M.segBytes ds).length cp (M.segBytes ds) := by
          obtain ⟨A', c', e1, hr⟩ := hO5.open_
          injection e1 with e1 e2 e3
          subst e1 e3
          exact hr
        have HOP := Lib.hid (open_any _ _ cp (M.segBytes ds) w5 hr5 HFW.out (HT.out.below HB5.out))
        rw [HOB.out] at HOP
        have HO5 := Lib.hid hO5
        have hgw : w.heap.size < gp := by have h1 := HB4.out.size; have h2 := heapLt HBX4.out; omega
        obtain ⟨pl, hpl⟩ : ∃ pl, M.segBytes ds = pl := ⟨_, rfl⟩
        rw [hpl] at HO5 hcp HFW HOP ⊢
        obtain ⟨np, hnp⟩ : ∃ np, pl.length = np := ⟨_, rfl⟩
        have HNP := Lib.hid hnp
        rw [hnp] at HO5 hcp HFW HOP ⊢
        have hfw := HFW.out
        clear hb5 hcase hO5 hr5 HBU HBX4 hpl hnp HLEN HOB
        go_wp2_with fail
        refine HOP.out.mono ?_
        rintro e w6 ⟨v6, rfl, hb6, -, hg⟩
        obtain ⟨g, rfl, hsg⟩ := hg rfl
        have HBX6 := Lib.hid (HBX5.out.on hb6)
        have HB6 := Lib.hid (HB5.out.trans (hb6.mono HB5.out.size))
        have HSG := Lib.hid hsg
        have HO6 := Lib.hid (HO5.out.below hb6)
        have hs56 := hb6.size
        clear hb6 hg hsg HOP HBX5 HO5
        have HSGT := Lib.hid (fun (W : World) (hW : w6.grownBy W (some gp)) => HSG.out.turned hW hgp2)
        have HBWT := Lib.hid (fun (W : World) (hW : w6.grownBy W (some gp)) => below_grownBy HB6.out hW (by omega))
        have HG0 := Lib.hid (show w6.grownBy w6 (some gp) from ⟨rfl, rfl, rfl, Nat.le_refl _, fun _ _ _ => rfl⟩)
        go_wp2
        go_loopw [11] (fun p wr => ∃ (k : Nat) (l : List UInt8), p = .int .i64 k ∧ k ≤ np ∧ Hid (l.length = np) ∧ Hid (Own wr w4.heap.size 5 (.slice (some ⟨gp, 0, none⟩) np cp) l) ∧ Hid (w6.grownBy wr (some gp))) (fun p _ => np - (intOf p).toNat)
        case atStart => exact ⟨0, pl, rfl, Nat.zero_le _, HNP, HO6, HG0⟩
        case round =>
          obtain ⟨k, l, rfl, hk, HLL, HO, HG⟩ := hrel
          rename World => wr
          by_cases hlt : k < np
          · have hil : (k : Int) < (np : Int) := by omega
            have hO := HO.out
            rw [← HLL.out] at hO
            obtain ⟨g', c', e1, -, -, -, -, hcell, hfz⟩ := hO.form (by have := HLL.out; omega)
            injection e1 with e1 e1b e1c
            injection e1 with e1
            injection e1 with e1 e1d e1e
            subst e1
            clear e1b e1c e1d e1e
            have hck := hcell k (by have := HLL.out; omega)
            have hfk := hfz k
            obtain ⟨x, hx⟩ : ∃ x, x = (l[k]?.getD 0).toNat := ⟨_, rfl⟩
            have hx256 : x < 256 := by rw [hx]; exact UInt8.toNat_lt _
            rw [← hx] at hck
            have HF := Lib.hid (show bits BinOp.xor IntKind.u8 (x : Int) 1 = ((UInt8.ofNat (x ^^^ 1)).toNat : Int) from segXor x 1 hx256 (by omega))
            obtain ⟨y, hy⟩ : ∃ y, UInt8.ofNat (x ^^^ 1) = y := ⟨_, rfl⟩
            rw [hy] at HF
            have HO2 := Lib.hid (hO.stored k y)
            rw [HLL.out] at HO2
            have HG2 := Lib.hid (grown_trans HG.out (bytes_grown HO.out HLL.out k (.int .u8 (y.toNat : Int))))
            have HL2 := Lib.hid (show (l.set k y).length = np by rw [List.length_set]; exact HLL.out)
            clear hcell hfz hx hy hO
            go_wp2
            rw [HF.out]
            go_roundw
            case rel => exact ⟨k + 1, _, by go_num, by omega, HL2, HO2, HG2⟩
            case measure => simp [intOf]; omega
          · have HTE := Lib.hid (segTerms_w g _ ds wr (HSGT.out _ HG.out))
            have HKEY := Lib.hid (show ∀ t ∈ M.keys ds, t.length ≤ 65 from fun t ht => by
              obtain ⟨d, hd, hdt⟩ := M.mem_posts.1 (M.mem_keys.1 ht)
              exact M.terms_short _ t hdt)
            have HGs := Lib.hid HG.out.size
            go_wp2_with fail
            refine HTE.out.mono ?_
            rintro e w7 ⟨At, ct, rfl, hrt, hb7, hov⟩
            obtain ⟨nk, hnk⟩ : ∃ nk, (M.keys ds).length = nk := ⟨_, rfl⟩
            have HNK := Lib.hid hnk
            have HT7 := Lib.hid (show TRow w7 w6.heap.size At 0 (M.keys ds) from fun gt e h0 => by
              subst e
              obtain ⟨b, e2, hle, hfz⟩ := hov h0
              injection e2 with e2; injection e2 with e2; subst e2
              obtain ⟨b', o', e3, hlt', hcc⟩ := hrt.2.2.2 h0
              injection e3 with e3; injection e3 with e3 e4; subst e3 e4
              refine ⟨by have := HGs.out; omega, hlt', fun j hj _ => ?_, hfz⟩
              have := hcc j hj
              rw [Nat.zero_add, strs_at hj] at this
              exact this)
            rw [hnk] at hrt ⊢
            have hct := hrt.2.1; have hctm := hrt.max
            have HAT := Lib.hid (show 0 < nk → ∃ gt, At = some ⟨gt, 0, none⟩ from fun h0 => by obtain ⟨b, e2, _⟩ := hov (by rw [hnk]; exact h0); exact ⟨b, e2⟩)
            have HG7 := Lib.hid (grown_below HG.out HGs.out hb7)
            clear hrt hov hb7 hnk HTE HO HG HLL HGs
            go_wp2
            go_loopw [13] (fun p wi => ∃ k : Nat, p = .int .i64 k ∧ k ≤ nk ∧ Hid (w6.grownBy wi (some gp)) ∧ Hid (TRow wi w6.heap.size At k (M.keys ds))) (fun p _ => nk - (intOf p).toNat)
            case atStart => exact ⟨0, rfl, Nat.zero_le _, HG7, HT7⟩
            case round =>
              obtain ⟨k2, rfl, hk2, HGi, HTi⟩ := hrel
              rename World => wi
              by_cases hlt2 : k2 < nk
              · obtain ⟨gt, rfl⟩ := HAT.out (by omega)
                have hkx : k2 < (M.keys ds).length := by rw [HNK.out]; exact hlt2
                obtain ⟨t1, t2, t3, t4⟩ := HTi.out gt rfl (by omega)
                have q := t3 k2 hkx (Nat.le_refl _)
                have hkl := HKEY.out _ (List.getElem_mem hkx)
                have hil2 : (k2 : Int) < (nk : Int) := by omega
                have hgi := HGi.out.size
                generalize (M.keys ds)[k2] = tm at *
                have HP := Lib.hid (segPosts_any g _ ds tm wi (HSGT.out _ HGi.out) (by omega) (by have := HDL.out; omega))
                generalize M.posts ds tm = ps at *
                clear t1 t2 t3 t4 hkl
                go_wp2_with fail
                refine HP.out.mono ?_
                rintro e w8 ⟨v8, rfl, hO8, hb8⟩
                obtain ⟨A8, c8, hv8, hc8, hm8⟩ := hO8.form
                subst hv8
                rw [ints_len] at hc8 hO8 ⊢
                obtain ⟨n8, hn8⟩ : ∃ n8, ps.length = n8 := ⟨_, rfl⟩
                rw [hn8] at hc8 hO8 ⊢
                have HN8 := Lib.hid hn8; have HO8 := Lib.hid hO8; have HB8 := Lib.hid hb8
                clear hn8 hO8 hb8 HP q
                go_wp2
                go_loopw [15] (fun p wj => ∃ (j : Nat) (l : List Int), p = .int .i64 j ∧ j ≤ n8 ∧ Hid (l.length = n8) ∧ Hid (OwnV wj wi.heap.size 3 (.slice A8 n8 c8) (ints l)) ∧ Hid (Below wi.heap.size wi wj)) (fun p _ => n8 - (intOf p).toNat)
                case atStart => exact ⟨0, ps, rfl, Nat.zero_le _, HN8, HO8, HB8⟩
                case round =>
                  obtain ⟨j, lj, rfl, hj, HLj, HOj, HBj⟩ := hrel
                  rename World => wj
                  by_cases hlt3 : j < n8
                  · obtain ⟨g8, rfl⟩ := ints_some HOj.out (by omega) HLj.out
                    obtain ⟨p1, p2, p3, p4⟩ := ints_put HOj.out HLj.out j (-1)
                    obtain ⟨u, p3⟩ := p3 hlt3
                    have hjl : (j : Int) < (n8 : Int) := by omega
                    have HO9 := Lib.hid p1
                    have HB9 := Lib.hid (HBj.out.setCell (p := ⟨g8, j, none⟩) p4 (.int .i64 (-1)))
                    have HL9 := Lib.hid (show (lj.set j (-1)).length = n8 by rw [List.length_set]; exact HLj.out)
                    clear p1 p4
                    go_wp2
                    go_roundw
                    case rel => exact ⟨j + 1, _, by go_num, by omega, HL9, HO9, HB9⟩
                    case measure => simp [intOf]; omega
                  · have HTj := Lib.hid (HTi.out.on HBj.out)
                    have HGj := Lib.hid (grown_below HGi.out hgi HBj.out)
                    obtain ⟨t1, t2, t3, t4⟩ := HTj.out gt rfl (by omega)
                    have q := t3 k2 hkx (Nat.le_refl _)
                    have qf := t4 k2 hkx
                    have HTn := Lib.hid (HTj.out.put (.string ⟨#[120]⟩))
                    have HGn := Lib.hid (show w6.grownBy (wj.setCell ⟨gt, k2, none⟩ (.string ⟨#[120]⟩)) (some gp) from
                      ⟨HGj.out.os, HGj.out.tape, HGj.out.output, by simpa [World.setCell] using HGj.out.size, fun x hx hne => (heap_setCell_other wj ⟨gt, k2, none⟩ x _ (fun e => by have : x = gt := e; omega)).trans (HGj.out.block x hx hne)⟩)
                    clear t1 t2 t3 t4
                    generalize (M.keys ds)[k2] = tm2 at *
                    go_wp2
                    go_roundw
                    case rel => exact ⟨k2 + 1, by go_num, by omega, HGn, HTn⟩
                    case measure => simp [intOf]; omega
              · have HBW := Lib.hid (HBWT.out _ HGi.out)
                have HBXi := Lib.hid (show BoxIn wi w.heap.size K t z Aq nq cq from (HGi.out.block _ (heapLt HBX6.out) (fun e => by injection e with e; omega)).trans HBX6.out)
                obtain ⟨x0, x1, x2, x3⟩ := HBXi.out.cells
                have HF1 := Lib.hid (HFI.out g _ wi HBW.out (HSGT.out _ HGi.out) HDL.out HTX.out)
                have hgi := HGi.out.size
                go_wp2_with fail
                refine HF1.out.mono ?_
                rintro e w8 ⟨v8, rfl, hO8, hb8⟩
                obtain ⟨A8, c8, hv8, hc8, hm8⟩ := hO8.form
                subst hv8
                rw [ints_len] at hc8 hO8 ⊢
                obtain ⟨n8, hn8⟩ : ∃ n8, fa.length = n8 := ⟨_, rfl⟩
                rw [hn8] at hc8 hO8 ⊢
                have HN8 := Lib.hid hn8; have HO8 := Lib.hid hO8; have HB8 := Lib.hid hb8
                clear hn8 hO8 hb8 HF1 x0 x1 x2 x3
                go_wp2
                go_loopw [17] (fun p wj => ∃ (j : Nat) (l : List Int), p = .int .i64 j ∧ j ≤ n8 ∧ Hid (l.length = n8) ∧ Hid (OwnV wj wi.heap.size 3 (.slice A8 n8 c8) (ints l)) ∧ Hid (Below wi.heap.size wi wj)) (fun p _ => n8 - (intOf p).toNat)
                case atStart => exact ⟨0, fa, rfl, Nat.zero_le _, HN8, HO8, HB8⟩
                case round =>
                  obtain ⟨j, lj, rfl, hj, HLj, HOj, HBj⟩ := hrel
                  rename World => wj
                  by_cases hlt3 : j < n8
                  · obtain ⟨g8, rfl⟩ := ints_some HOj.out (by omega) HLj.out
                    obtain ⟨p1, p2, p3, p4⟩ := ints_put HOj.out HLj.out j (-1)
                    obtain ⟨u, p3⟩ := p3 hlt3
                    have hjl : (j : Int) < (n8 : Int) := by omega
                    have HO9 := Lib.hid p1
                    have HB9 := Lib.hid (HBj.out.setCell (p := ⟨g8, j, none⟩) p4 (.int .i64 (-1)))
                    have HL9 := Lib.hid (show (lj.set j (-1)).length = n8 by rw [List.length_set]; exact HLj.out)
                    clear p1 p4
                    go_wp2
                    go_roundw
                    case rel => exact ⟨j + 1, _, by go_num, by omega, HL9, HO9, HB9⟩
                    case measure => simp [intOf]; omega
                  · have HGj := Lib.hid (grown_below HGi.out hgi HBj.out)
                    have HDN := Lib.hid (segDoc_nil ii wj)
                    unfold TellsE dval at HDN
                    simp only at HDN
                    have HBXj := Lib.hid (HBXi.out.on HBj.out)
                    go_wp2_with fail
                    refine HDN.out.mono ?_
                    rintro e w9 ⟨rfl, hb9⟩
                    have HX9 := Lib.hid (HBXj.out.on hb9)
                    obtain ⟨w10, hw10⟩ : ∃ w10, w10 = w9.alloc (.cells #[.string ⟨#[]⟩, .int .i64 0, .string ⟨#[]⟩] 52) := ⟨_, rfl⟩
                    have hb10 : Below w9.heap.size w9 w10 := by rw [hw10]; exact (Below.refl _ _).alloc (Nat.le_refl _) _
                    have HG10 := Lib.hid (grown_below (grown_below HGj.out HGj.out.size hb9) (Nat.le_trans HGj.out.size hb9.size) hb10)
                    have HB10 := Lib.hid (HBWT.out _ HG10.out)
                    obtain ⟨y0, y1, y2, y3⟩ := (HX9.out.on hb10).cells
                    have HV := Lib.hid (show FiS w10 w.heap.size K t z Aq nq cq w10.drew from ⟨y0, y1, y2, y3, ⟨rfl, rfl, rfl, Nat.le_refl _, fun _ _ => rfl⟩⟩)
                    have HS10 := Lib.hid (HSGT.out _ HG10.out)
                    have HBD := Lib.hid (fun (W : World) (hW : Below w10.heap.size w10 W) => HB10.out.trans (hW.mono HB10.out.size))
                    have HHO := Lib.hid (fun (W : World) (hW : Below w10.heap.size w10 W) => holds_any g _ A n c ds W (HS10.out.on hW) (H.out.on (HBD.out _ hW)) (by omega) HTX.out (HT.out.below (HBD.out _ hW)))
                    have HLN := Lib.hid (fun (W : World) => segLen_nil W)
                    have HTN := Lib.hid (fun (W : World) => segTerms_nil W)
                    have HPN := Lib.hid (fun (W : World) => segPosts_nil ⟨#[97]⟩ W)
                    have HSN := Lib.hid (fun (W : World) => same7_nil W)
                    subst hw10
                    clear hb9 hb10 y0 y1 y2 y3 HDN
                    go_wp2_with fail
                    go_region_held3 (fun W => W.cell? ⟨w.heap.size, 0, none⟩ = some (.int .u8 K) ∧ W.cell? ⟨w.heap.size, 1, none⟩ = some (.string ⟨t.toArray⟩) ∧ W.cell? ⟨w.heap.size, 2, none⟩ = some (.int .i64 z) ∧ W.cell? ⟨w.heap.size, 3, none⟩ = some (.slice Aq nq cq) ∧ Below (w9.alloc (.cells #[.string ⟨#[]⟩, .int .i64 0, .string ⟨#[]⟩] 52)).heap.size (w9.alloc (.cells #[.string ⟨#[]⟩, .int .i64 0, .string ⟨#[]⟩] 52)) W)
                      (first | exact hHeld | exact HV.out | exact hV1 | exact hV2)
                      (first
                        | (go_at_call 15; refine (HHO.out _ HV.out.2.2.2.2).mono ?_; rintro e wa ⟨rfl, hba⟩; have hV1 := HV.out.on hba)
                        | (go_at_call 24; refine (HLN.out _).mono ?_; rintro e wb ⟨rfl, rfl⟩)
                        | (go_at_call 21; refine (HTN.out _).mono ?_; rintro e wc ⟨rfl, rfl⟩)
                        | (go_at_call 22; refine (HPN.out _).mono ?_; rintro e wd ⟨rfl, rfl⟩)
                        | (go_at_call 19; refine (HFN.out _).mono ?_; rintro e wf ⟨rfl, hbf⟩; have hV2 := hV1.on hbf)
                        | (go_at_call 25; refine (HSN.out _).mono ?_; rintro e wg ⟨rfl, rfl⟩))
                    all_goals
                      have HBZ := Lib.hid (HBD.out _ hV2.2.2.2.2)
                      clear hV1 hV2
                      go_wp2
                      go_ret
                      exact ⟨rfl, HBZ.out⟩
end Go.Proofs.YthhgelaifapmmaaDoor
