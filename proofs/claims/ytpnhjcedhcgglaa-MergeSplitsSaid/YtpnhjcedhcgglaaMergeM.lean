/-
  The law MergeSplits: the walk.
-/
import Derived.Test.YtpnhjcedhcgglaaMergeL
namespace Go.Proofs.Ytpnhjcedhcgglaa
open Go.RowKit Mem
set_option linter.unusedVariables false
set_option maxRecDepth 100000

set_option maxHeartbeats 1000000 in
theorem mergeSplits_long (A : Option Addr) (n c : Nat) (A2 : Option Addr) (n2 c2 : Nat) (w : World) (hn : 60 < n) :
    Calls Try.prog 6 #[.slice A n c, .slice A2 n2 c2] w (SaysB true w) := by
  have HAW := Lib.hid (fun W => awake_any W)
  go_enter Try.func6, Try.ntmps6
  go_wp2_with fail
  refine (HAW.out _).mono ?_
  rintro e w1 ⟨rfl, hb1⟩
  have HB1 := Lib.hid hb1
  clear hb1
  go_wp2_with fail
  refine (HAW.out _).mono ?_
  rintro e w2 ⟨rfl, hb2⟩
  have HB2 := Lib.hid (HB1.out.trans (hb2.mono HB1.out.size))
  clear hb2
  go_wp2
  go_ret
  exact ⟨rfl, HB2.out⟩

set_option maxHeartbeats 1000000 in
theorem mergeSplits_none (A : Option Addr) (n c : Nat) (A2 : Option Addr) (c2 : Nat) (w : World) (hn : n ≤ 60) :
    Calls Try.prog 6 #[.slice A n c, .slice A2 0 c2] w (SaysB true w) := by
  have HAW := Lib.hid (fun W => awake_any W)
  have hn1 : ¬ (60 : Int) < (n : Int) := by omega
  go_enter Try.func6, Try.ntmps6
  go_wp2_with fail
  refine (HAW.out _).mono ?_
  rintro e w1 ⟨rfl, hb1⟩
  have HB1 := Lib.hid hb1
  clear hb1
  go_wp2_with fail
  refine (HAW.out _).mono ?_
  rintro e w2 ⟨rfl, hb2⟩
  have HB2 := Lib.hid (HB1.out.trans (hb2.mono HB1.out.size))
  clear hb2
  go_wp2
  go_ret
  exact ⟨rfl, HB2.out⟩

set_option maxHeartbeats 8000000 in
theorem mergeSplits_main (A : Option Addr) (n c : Nat) (A2 : Option Addr) (n2 c2 : Nat) (ds : List M.D) (ws : List UInt8) (w : World) (h : RdDocs w w.heap.size A n c ds) (h2 : Rd w w.heap.size A2 n2 c2 ws) (hn : n ≤ 60) (hn2 : 0 < n2) :
    Calls Try.prog 6 #[.slice A n c, .slice A2 n2 c2] w (SaysB true w) := by
  obtain ⟨i0, hi, hz0, hz1, hz2⟩ := info_of Try.infoDoc
  have HI := Lib.hid hi; have HZ0 := Lib.hid hz0; have HZ1 := Lib.hid hz1; have HZ2 := Lib.hid hz2
  clear hi hz0 hz1 hz2
  have H := Lib.hid h; have HN := Lib.hid h.1; have H2 := Lib.hid h2
  have hc := h.2.1; have hcm := h.2.2.1
  have hc2 := h2.cap; have hcm2 := h2.max
  have HAW := Lib.hid (awake_any w)
  have hn1 : ¬ (60 : Int) < (n : Int) := by omega
  have hn20 : ((n2 : Int) == 0) = false := by simp; omega
  have hn2p : (0 : Int) < (n2 : Int) := by omega
  have hn2z : ¬ n2 = 0 := by omega
  have hmk : ∀ w, (Instr.makeSlice 22 (.int .i64 5) (.int .i64 5)).run Try.prog w = .ok (.slice (some ⟨w.heap.size, 0, none⟩) 5 5) (w.alloc (.cells #[.slice none 0 0, .slice none 0 0, .slice none 0 0, .slice none 0 0, .slice none 0 0] 24)) := fun _ => by kernel_rfl
  clear h h2
  go_enter Try.func6, Try.ntmps6
  go_wp2_with fail
  refine HAW.out.mono ?_
  rintro e w1 ⟨rfl, hb1⟩
  have HB1 := Lib.hid hb1
  clear hb1 HAW
  go_wp2
  go_loopw [5, 6] (fun o p wr => ∃ (i ca : Nat) (Aa : Option Addr) (acc : List M.D), p = .int .i64 i ∧ o = .slice Aa i ca ∧ i ≤ n ∧ Hid (M.MOrd M.ahead acc) ∧ Hid (RdDocs wr wr.heap.size Aa i ca acc) ∧ Hid (Below w1.heap.size w1 wr)) (fun _ p _ => n - (intOf p).toNat)
  case atStart => exact ⟨0, 0, none, [], rfl, rfl, Nat.zero_le _, Lib.hid trivial, Lib.hid RdDocs.none_, Lib.hid (Below.refl _ _)⟩
  case round =>
    obtain ⟨i, ca, Aa, acc, rfl, rfl, hi, HO, HD, HB⟩ := hrel
    rename World => wr
    have HBW := Lib.hid (HB1.out.trans (HB.out.mono HB1.out.size))
    have hca1 := HD.out.2.1; have hca2 := HD.out.2.2.1
    by_cases hlt : i < n
    · have hix : i < ds.length := by have := HN.out; omega
      have hii : (i : Int) < (n : Int) := by omega
      have hw1 : IntKind.i64.wrap ((i : Int) + 1) = (i : Int) + 1 := by rw [IntKind.wrap_i64]; omega
      obtain ⟨b, off, rfl, hb, q0, q1, q2⟩ := H.out.at_ hix
      have p0 := cell_on HBW.out q0; have p1 := cell_on HBW.out q1; have p2 := cell_on HBW.out q2
      clear q0 q1 q2
      generalize ds[i] = d at *
      have hpu := put_any Aa i ca acc d wr HD.out (by omega) HO.out
      have HOX := Lib.hid (ord_dput HO.out d)
      have HLX := Lib.hid (show (M.dput M.ahead acc d).length = i + 1 by rw [len_dput, HD.out.1])
      obtain ⟨did, dtm, dtx⟩ := d
      unfold dval at hpu
      simp only at hpu p0 p1 p2
      have HPU := Lib.hid hpu
      clear hpu
      go_wp2_with fail
      refine HPU.out.mono ?_
      rintro e w5 ⟨v5, rfl, hrow5, hb5⟩
      obtain ⟨A5, c5, rfl, hr5⟩ := hrow5.open_
      rw [HLX.out] at hr5 ⊢
      have HR5 := Lib.hid hr5
      have HB5 := Lib.hid (HB.out.trans (hb5.mono HB.out.size))
      clear hrow5 hb5 hr5
      go_wp2
      go_roundw
      case rel => exact ⟨i + 1, c5, A5, _, by go_num, rfl, by omega, HOX, HR5, HB5⟩
      case measure => simp [intOf]; omega
    · obtain rfl : i = n := by omega
      obtain ⟨w2, hw2⟩ : ∃ w2, w2 = wr := ⟨_, rfl⟩
      rw [← hw2] at HB HBW HD ⊢
      clear hw2 hlt
      have hil : i = acc.length := HD.out.1
      have HIL := Lib.hid hil
      clear hil
      go_wp2
      go_loopw [7] (fun p wr => ∃ j : Nat, p = .int .i64 ((j : Int) + 1) ∧ j ≤ i ∧ Hid (∀ k (hk : k + 1 < acc.length), k < j → M.ahead acc[k] acc[k + 1] = true) ∧ Hid (Below w2.heap.size w2 wr)) (fun p _ => i + 1 - (intOf p).toNat)
      case atStart => exact ⟨0, by go_num, Nat.zero_le _, Lib.hid (fun k hk hj => by omega), Lib.hid (Below.refl _ _)⟩
      case round =>
        obtain ⟨j, rfl, hj, HS, HBJ⟩ := hrel
        rename World => wj
        have HBWJ := Lib.hid (HBW.out.trans (HBJ.out.mono HBW.out.size))
        by_cases hlt : j + 1 < i
        · have hj1 : j + 1 < acc.length := by have := HIL.out; omega
          have hw1 : IntKind.i64.wrap (j : Int) = (j : Int) := by rw [IntKind.wrap_i64]; omega
          have hw2 : IntKind.i64.wrap ((j : Int) + 1 + 1) = (j : Int) + 1 + 1 := by rw [IntKind.wrap_i64]; omega
          have hjm : (j : Int) < (i : Int) := by omega
          have hjm1 : (j : Int) + 1 < (i : Int) := by omega
          have hj0 : (0 : Int) ≤ (j : Int) + 1 := by omega
          obtain ⟨db, off, hA, hdb, hcells⟩ := HD.out.2.2.2 (by omega)
          subst hA
          obtain ⟨q0, q1, q2⟩ := hcells j (by omega)
          obtain ⟨r0, r1, r2⟩ := hcells (j + 1) hj1
          have HV := Lib.hid (show TwoS w2 db (off + j * 3) db (off + (j + 1) * 3) acc[j] acc[j + 1] wj.drew from TwoS.drew ⟨cell_on HBJ.out q0, cell_on HBJ.out q1, cell_on HBJ.out q2, cell_on HBJ.out r0, cell_on HBJ.out r1, cell_on HBJ.out r2, HBJ.out⟩)
          have HNX := Lib.hid (show M.ahead acc[j] acc[j + 1] = true → ∀ k (hk : k + 1 < acc.length), k < j + 1 → M.ahead acc[k] acc[k + 1] = true from fun ha k hk hkj => by
            rcases Nat.lt_or_ge k j with h | h
            · exact HS.out k hk h
            · obtain rfl : k = j := by omega
              exact ha)
          clear hcells q0 q1 q2 r0 r1 r2 HS
          generalize acc[j] = x at *
          generalize acc[j + 1] = y at *
          have HOR := Lib.hid (fun W => ahead_any x y W)
          obtain ⟨ab, hab⟩ : ∃ ab, M.ahead x y = ab := ⟨_, rfl⟩
          rw [hab] at HOR HNX
          clear hab
          obtain ⟨i1, t1, x1⟩ := x
          obtain ⟨i2, t2, x2⟩ := y
          unfold dval at HOR
          simp only at HOR
          cases ab
          · go_wp2_with fail
            go_region_held3 (fun W => W.cell? ⟨db, off + j * 3, none⟩ = some (.string ⟨i1.toArray⟩) ∧ W.cell? ⟨db, off + j * 3 + 1, none⟩ = some (.int .i64 t1) ∧ W.cell? ⟨db, off + j * 3 + 2, none⟩ = some (.string ⟨x1.toArray⟩) ∧
                W.cell? ⟨db, off + (j + 1) * 3, none⟩ = some (.string ⟨i2.toArray⟩) ∧ W.cell? ⟨db, off + (j + 1) * 3 + 1, none⟩ = some (.int .i64 t2) ∧ W.cell? ⟨db, off + (j + 1) * 3 + 2, none⟩ = some (.string ⟨x2.toArray⟩) ∧ Below w2.heap.size w2 W)
              (first | exact hHeld | exact HV.out | exact hV2 | fail)
              (first
                | (go_at_call 13; refine (HOR.out _).mono ?_; rintro e w5 ⟨rfl, hb2⟩; have hV2 := HV.out.on hb2)
                | fail)
            all_goals
              have HB2 := Lib.hid (HBW.out.trans (hV2.bel.mono HBW.out.size))
              clear hb2 hV2
              go_wp2
              go_ret
              exact ⟨rfl, HB2.out⟩
          · have HNX' := Lib.hid (HNX.out rfl)
            clear HNX
            go_wp2_with fail
            go_region_held3 (fun W => W.cell? ⟨db, off + j * 3, none⟩ = some (.string ⟨i1.toArray⟩) ∧ W.cell? ⟨db, off + j * 3 + 1, none⟩ = some (.int .i64 t1) ∧ W.cell? ⟨db, off + j * 3 + 2, none⟩ = some (.string ⟨x1.toArray⟩) ∧
                W.cell? ⟨db, off + (j + 1) * 3, none⟩ = some (.string ⟨i2.toArray⟩) ∧ W.cell? ⟨db, off + (j + 1) * 3 + 1, none⟩ = some (.int .i64 t2) ∧ W.cell? ⟨db, off + (j + 1) * 3 + 2, none⟩ = some (.string ⟨x2.toArray⟩) ∧ Below w2.heap.size w2 W)
              (first | exact hHeld | exact HV.out | exact hV2 | fail)
              (first
                | (go_at_call 13; refine (HOR.out _).mono ?_; rintro e w5 ⟨rfl, hb2⟩; have hV2 := HV.out.on hb2)
                | fail)
            all_goals
              have HB2 := Lib.hid hV2.bel
              clear hb2 hV2
              go_wp2
              go_roundw
              case rel => exact ⟨j + 1, by go_num, by omega, HNX', HB2⟩
              case measure => simp [intOf]; omega
        · have HSTR := Lib.hid (show M.MStr acc M.ahead from M.str_of' (fun k hk => HS.out k hk (by have := HIL.out; omega)))
          have hq : ¬ (j : Int) + 1 < (i : Int) := by omega
          have HDJ := Lib.hid (HD.out.on HBJ.out)
          clear HS
          obtain ⟨pb, hpb⟩ : ∃ pb, pb = wj.heap.size := ⟨_, rfl⟩
          have HP0 := Lib.hid (show PartsAt pb pb (fun _ => .slice none 0 0) (fun _ => []) (wj.alloc (.cells #[.slice none 0 0, .slice none 0 0, .slice none 0 0, .slice none 0 0, .slice none 0 0] 24)) from
            ⟨Nat.le_refl _, by rw [hpb]; exact heap_alloc_new wj _, fun j hj => ⟨World.ownsRow_nil _ _ _ _, by simp [Value.ownBlock]⟩, fun a b _ _ _ x hx => by simp [Value.ownBlock] at hx⟩)
          have HBX := Lib.hid (show Below pb wj (wj.alloc (.cells #[.slice none 0 0, .slice none 0 0, .slice none 0 0, .slice none 0 0, .slice none 0 0] 24)) by rw [hpb]; exact (Below.refl _ _).alloc (Nat.le_refl _) _)
          have HPB := Lib.hid hpb
          have hil : i = acc.length := HIL.out
          have HTS := Lib.hid (fun (q : Nat) (hq : q < acc.length) => M.str_take HSTR.out hq)
          clear hil
          go_wp2
          rw [← hpb]
          clear hpb
          go_loopw [9] (fun p wr => ∃ (q : Nat) (V : Nat → Value) (Ds : Nat → List M.D), p = .int .i64 q ∧ q ≤ i ∧ Hid (PartsAt pb pb V Ds wr) ∧ Hid (∀ j, j < 5 → M.MOrd M.ahead (Ds j)) ∧ Hid (M.mall M.ahead [Ds 0, Ds 1, Ds 2, Ds 3, Ds 4] = acc.take q) ∧ Hid (Below pb wj wr)) (fun p _ => i - (intOf p).toNat)
          case atStart => exact ⟨0, _, _, rfl, Nat.zero_le _, HP0, Lib.hid (fun _ _ => trivial), Lib.hid (by simp [M.mall]), HBX⟩
          case round =>
            obtain ⟨q, V, Ds, rfl, hq, HP, HDO, HMA, HBQ⟩ := hrel
            rename World => wr
            have HBQ' := Lib.hid (show Below wj.heap.size wj wr by have := HBQ.out; rwa [HPB.out] at this)
            have HBWQ := Lib.hid (HBWJ.out.trans (HBQ'.out.mono HBWJ.out.size))
            by_cases hlt : q < i
            · have hqx : q < acc.length := by have := HIL.out; omega
              have hqi : (q : Int) < (i : Int) := by omega
              have hw1 : IntKind.i64.wrap ((q : Int) + 1) = (q : Int) + 1 := by rw [IntKind.wrap_i64]; omega
              obtain ⟨t, ht⟩ : ∃ t, q % n2 = t := ⟨_, rfl⟩
              have htm1 : (q : Int).tmod (n2 : Int) = (t : Int) := by rw [Int.tmod_eq_emod_of_nonneg (by omega), ← ht, Int.natCast_emod]
              have ht2 : t < n2 := by rw [← ht]; exact Nat.mod_lt _ hn2
              have ht3 : (t : Int) < (n2 : Int) := by omega
              obtain ⟨bw, ow, hA2, hbw, hcw⟩ := H2.out.at_ ht2
              have hcw' := cell_on HBWQ.out hcw
              obtain ⟨x, hx, HX⟩ : ∃ x : Nat, x < 256 ∧ Hid ((ws[t]?.getD 0).toNat = x) := ⟨_, UInt8.toNat_lt _, Lib.hid rfl⟩
              rw [HX.out] at hcw'
              obtain ⟨k, hk⟩ : ∃ k, x % 5 = k := ⟨_, rfl⟩
              have htm2 : (x : Int).tmod 5 = (k : Int) := by rw [Int.tmod_eq_emod_of_nonneg (by omega), ← hk, Int.natCast_emod]; rfl
              have hwx : IntKind.i64.wrap (x : Int) = (x : Int) := by rw [IntKind.wrap_i64]; omega
              have hk5 : k < 5 := by omega
              have hk5i : (k : Int) < 5 := by omega
              subst hA2
              clear hcw ht hk
              obtain ⟨db, off, hA, hdb, y0, y1, y2⟩ := HDJ.out.at_ hqx
              subst hA
              have p0 := cell_on HBQ'.out y0; have p1 := cell_on HBQ'.out y1; have p2 := cell_on HBQ'.out y2
              clear y0 y1 y2
              obtain ⟨Ak, ck, hVk, hrk⟩ := (HP.out.2.2.1 k hk5).1.open_
              obtain ⟨mk, hmk2⟩ : ∃ mk, (Ds k).length = mk := ⟨_, rfl⟩
              rw [hmk2] at hVk hrk
              have HVK := Lib.hid hVk; have HMK := Lib.hid hmk2
              have hck := hrk.2.1; have hckm := hrk.2.2.1
              have hmki : mk ≤ 60 := by
                have e1 : (Ds k).length ≤ (M.mall M.ahead [Ds 0, Ds 1, Ds 2, Ds 3, Ds 4]).length := by
                  rw [M.mall_len]
                  rcases (by omega : k = 0 ∨ k = 1 ∨ k = 2 ∨ k = 3 ∨ k = 4) with rfl | rfl | rfl | rfl | rfl <;> simp <;> omega
                rw [HMA.out, List.length_take, hmk2] at e1
                omega
              have hpk : wr.cell? ⟨pb, k, none⟩ = some (.slice Ak mk ck) := by
                rw [cellAt k HP.out.2.1, ← hVk]
                rcases (by omega : k = 0 ∨ k = 1 ∨ k = 2 ∨ k = 3 ∨ k = 4) with rfl | rfl | rfl | rfl | rfl <;> rfl
              have HCK := Lib.hid hpk
              have hpkd : wr.drew.cell? ⟨pb, k, none⟩ = some (.slice Ak mk ck) := hpk
              have HHP := Lib.hid HP.out.2.1
              have HXA := Lib.hid (HTS.out q hqx)
              have HTK := Lib.hid (show acc.take (q + 1) = acc.take q ++ [acc[q]] from List.take_succ_eq_append_getElem hqx)
              clear hrk hVk hmk2
              generalize acc[q] = d at *
              obtain ⟨did, dtm, dtx⟩ := d
              simp only at p0 p1 p2
              have hpbs : pb < wr.heap.size := heapLt HP.out.2.1
              have HOND := Lib.hid (show World.ownsRow (wr.alloc (.cells #[.string ⟨did.toArray⟩, .int .i64 dtm, .string ⟨dtx.toArray⟩] 31)).drew pb 31 3 (.slice Ak mk ck) mk (dcells (Ds k)) by
                have h := (HP.out.2.2.1 k hk5).1
                unfold DRow at h
                rw [HMK.out, HVK.out] at h
                exact World.ownsRow.alloc h _)
              have HNE := Lib.hid (show Value.ownBlock (.slice Ak mk ck) ≠ some pb by rw [← HVK.out]; exact (HP.out.2.2.1 k hk5).2)
              have pd0 : wr.drew.cell? _ = some _ := p0
              have pd1 : wr.drew.cell? _ = some _ := p1
              have pd2 : wr.drew.cell? _ = some _ := p2
              go_wp2_with fail
              go_region_law (first
                | (refine step_append_lies _ (by rfl) _ _ _ (by rfl) pb 31 i0 _ 3 40 Try.underlying24 HI.out HZ0.out HZ1.out HZ2.out rfl (by omega) (.slice Ak mk ck) mk (dcells (Ds k)) (by rfl) HOND.out ⟨wr.heap.size, 0, none⟩ 1 1 [.string ⟨did.toArray⟩, .int .i64 dtm, .string ⟨dtx.toArray⟩] (by rfl) (by rfl) (World.news_of_block (cs := #[.string ⟨did.toArray⟩, .int .i64 dtm, .string ⟨dtx.toArray⟩]) (t := 31) (fr := (0, 0)) (heap_alloc_new wr _)) (by simp [Value.oneCell']) (by omega) (by simp only [maxLen]; omega) (by omega) (by simp; omega) (wr.heap.size + 1) (by simp) ?_; intro g8 cap8 w8 hown8 hgrow8 hat8 hlt8
                   have hrow8 : w8.heap[pb]? = some (.cells #[V 0, V 1, V 2, V 3, V 4] 24 (0, 0)) := (hgrow8.block pb (by simp; omega) (fun e => HNE.out e.symm)).trans (heapOld HHP.out)
                   have y3 : w8.cell? ⟨pb, k, none⟩ = some (.slice Ak mk ck) := (World.cell?_of_block (a := ⟨pb, k, none⟩) (hrow8.trans HHP.out.symm)).trans HCK.out
                   have yf : w8.frozen? ⟨pb, k, none⟩ = false := freeAt k hrow8
                   have HOWN8 := Lib.hid hown8; have HGROW8 := Lib.hid hgrow8; have HAT8 := Lib.hid hat8
                   clear hown8 hgrow8 hat8 hrow8)
                | fail)
              all_goals
                have HP8 := Lib.hid (HP.out.push (o := .cells #[.string ⟨did.toArray⟩, .int .i64 dtm, .string ⟨dtx.toArray⟩] 31) (x := ⟨did, dtm, dtx⟩) hk5 HVK.out HMK.out (Nat.le_of_lt hpbs) HOWN8.out ⟨HGROW8.out.os, HGROW8.out.tape, HGROW8.out.output, HGROW8.out.size, HGROW8.out.block⟩ HAT8.out)
                have HM8 := Lib.hid (show M.mall M.ahead [upd Ds k (Ds k ++ [⟨did, dtm, dtx⟩]) 0, upd Ds k (Ds k ++ [⟨did, dtm, dtx⟩]) 1, upd Ds k (Ds k ++ [⟨did, dtm, dtx⟩]) 2, upd Ds k (Ds k ++ [⟨did, dtm, dtx⟩]) 3, upd Ds k (Ds k ++ [⟨did, dtm, dtx⟩]) 4] = acc.take (q + 1) by
                  rw [five_mall hk5 (by rw [HMA.out]; exact HXA.out), HMA.out, HTK.out])
                have HDO8 := Lib.hid (show ∀ j, j < 5 → M.MOrd M.ahead (upd Ds k (Ds k ++ [(⟨did, dtm, dtx⟩ : M.D)]) j) from fun j hj => by
                  by_cases hjk : j = k
                  · subst hjk
                    rw [upd_same]
                    exact M.ord_snoc (HDO.out j hj) (fun z hz => M.ahead_pre.as (HXA.out z (by rw [← HMA.out]; exact five_mem hj hz)))
                  · rw [upd_other _ _ hjk]
                    exact HDO.out j hj)
                have HB8 := Lib.hid (show Below pb wj (w8.setCell ⟨pb, k, none⟩ (.slice (some ⟨g8, 0, none⟩) (mk + 1) cap8)) from by
                  have h0 : Below pb wj (wr.alloc (.cells #[.string ⟨did.toArray⟩, .int .i64 dtm, .string ⟨dtx.toArray⟩] 31)) := HBQ.out.alloc (by omega) _
                  have h1 : Below pb wj w8 := h0.grown (row := Value.ownBlock (.slice Ak mk ck)) ⟨HGROW8.out.os, HGROW8.out.tape, HGROW8.out.output, HGROW8.out.size, HGROW8.out.block⟩ (by simp; omega) (fun k' hk' => (World.ownsRow.lt HOND.out k' hk').1)
                  exact h1.setCell (p := ⟨pb, k, none⟩) (Nat.le_refl _) _)
                clear HOWN8 HGROW8 HAT8 y3 yf htm1 htm2 hwx
                go_wp2
                go_roundw
                case rel => exact ⟨q + 1, _, _, by go_num, by omega, HP8, HDO8, HM8, HB8⟩
                case measure => simp [intOf]; omega
            · obtain rfl : q = i := by omega
              obtain ⟨rs, hrs, hls⟩ := HP.out.lists
              have HLS := Lib.hid hls
              have HMF := Lib.hid (show M.mall M.ahead (lists rs) = acc by rw [hls, HMA.out, List.take_of_length_le (by have := HIL.out; omega)])
              have htot : totD rs = q := by rw [← totD_len hrs.2.2.2.1, HMF.out]; exact HIL.out.symm
              have hme := merge_any (some ⟨pb, 0, none⟩) 5 5 q rs wr hrs (by omega) (by omega)
              have HTOT := Lib.hid htot
              have HME := Lib.hid hme
              have HGD := Lib.hid (show ∀ r ∈ rs, M.risesB r.ds = true from fun r hr => by
                have h1 : r.ds ∈ lists rs := List.mem_map.2 ⟨r, hr, rfl⟩
                rw [hls] at h1
                simp only [List.mem_cons, List.not_mem_nil, or_false] at h1
                rcases h1 with h1 | h1 | h1 | h1 | h1 <;> rw [h1] <;> exact M.risesB_of (HDO.out _ (by omega)))
              have HALL := Lib.hid (HDJ.out.on HBQ'.out)
              clear hrs hls htot hme
              go_wp2_with fail
              refine HME.out.mono ?_
              rintro e w6 ⟨hb6, hx⟩
              rcases hx with ⟨⟨r, hr, hbad⟩, _⟩ | ⟨_, v, rfl, hrow⟩
              · exfalso
                have := HGD.out r hr
                rw [hbad] at this
                cases this
              · rw [HTOT.out, HMF.out, List.take_of_length_le (by have := HIL.out; omega)] at *
                obtain ⟨A7, c7, rfl, hr7⟩ := hrow.open_
                have hdec : decide (q < q) = false := by simp
                rw [hdec]
                have HB6 := Lib.hid (HBWQ.out.trans (hb6.mono HBWQ.out.size))
                have HSA := Lib.hid (same7_any A7 Aa _ c7 q ca acc w6 hr7 (HALL.out.on hb6))
                clear hrow hr7 hb6 hdec
                go_wp2_with fail
                refine HSA.out.mono ?_
                rintro e w7 ⟨rfl, hb7⟩
                have HB7 := Lib.hid (HB6.out.trans (hb7.mono HB6.out.size))
                clear hb7
                go_wp2
                go_ret
                exact ⟨rfl, HB7.out⟩
end Go.Proofs.Ytpnhjcedhcgglaa
