/-
  The law MetaEvens, by the contracts: the walk.
-/
import Derived.Test.YtghnelfgnfhclaaMetaEw
import Derived.Deep.CutBlock
namespace Go.Proofs.Ytghnelfgnfhclaa
open Go.RowKit Mem Go.ChangeShapes
set_option linter.unusedVariables false
set_option maxRecDepth 100000

set_option maxHeartbeats 8000000 in
theorem metaEvens_any (a b d : Nat) (ha : a < 256) (hb : b < 256) (hd : d < 256) (Al : Option Addr) (nl cl : Nat) (l : List M.C) (w : World) (hl : RdCs w w.heap.size Al nl cl l) : Calls Try.prog 9 #[.int .u8 (a : Int), .int .u8 (b : Int), .int .u8 (d : Int), .slice Al nl cl] w (SaysB true w) := by
  obtain ⟨n, hn⟩ : ∃ n, n = 1 + a % 5 := ⟨_, rfl⟩
  obtain ⟨s, hs⟩ : ∃ s, s = 1 + b % 8 := ⟨_, rfl⟩
  obtain ⟨k, hk⟩ : ∃ k, k = 1 + d % n := ⟨_, rfl⟩
  have hkn : k ≤ n := by have := Nat.mod_lt d (show 0 < n by omega); omega
  have HNI := Lib.hid (show (1 + (a : Int) % 5) = (n : Int) by omega)
  have HSI := Lib.hid (show (1 + (b : Int) % 8) = (s : Int) by omega)
  have HKI := Lib.hid (show ((1 : Int) + (d : Int) % (n : Int)) = (k : Int) by rw [hk, Int.natCast_add, Int.natCast_emod]; rfl)
  have hn5 : n ≤ 5 := by omega
  have hn1 : 1 ≤ n := by omega
  have hs1 : 1 ≤ s := by omega
  have hs8 : s ≤ 8 := by omega
  have hk1 : 1 ≤ k := by omega
  have HLC := Lib.hid hl
  have hnl1 := hl.2.1; have hnl2 := hl.2.2.1
  have HNL := Lib.hid hl.1
  have C0 := Lib.hid (fun W => new_ok n s k hn1 hn5 hs1 hs8 hk1 hkn W)
  have HA := Lib.hid (awake14_any w)
  have HN64 := Lib.hid (show I64 (n : Int) by unfold I64; omega)
  clear hn hs hk hl
  go_enter Try.func9, Try.ntmps9
  go_wp2_with fail
  refine HA.out.mono ?_
  rintro e w1 ⟨rfl, hb1⟩
  have HB1 := Lib.hid hb1
  have hni := HNI.out
  have hsi := HSI.out
  have hki := HKI.out
  have hn0 : ¬ (n : Int) = 0 := by omega
  clear hb1
  go_wp2_with fail
  refine (C0.out w1).mono ?_
  rintro e w2 ⟨v0, xs0, rfl, ho0, he0, hb2⟩
  have hrl : (M.new n s k).rows.length = s := by simp [M.new]
  have hx0l : xs0.length = s := by have := congrArg List.length he0; rw [List.length_map, hrl] at this; exact this
  obtain ⟨A0, c0, e1, hc1, hm1⟩ := row_form ho0.row
  rw [hx0l] at e1 hc1
  subst e1
  have hw2 := bel_alloc' w2 (.cells #[.int .i64 (n : Int), .slice A0 s c0] 24)
  have HST := Lib.hid (show Staying w (w2.alloc (.cells #[.int .i64 (n : Int), .slice A0 s c0] 24)) w2.heap.size n s A0 c0 (M.new n s k) xs0 from
    ⟨heapNew (w := w2) _, (ho0.below hw2).less HB1.out.size, he0, rfl, hrl, M.new_form n s k hn1 hn5 hs1 hs8 hk1 hkn, new_fit hn5 hs8 hn1, by have := HB1.out.size; have := hb2.size; omega, bel_on (bel_on HB1.out hb2) hw2⟩)
  obtain ⟨g, hg⟩ : ∃ g, w2.heap.size = g := ⟨_, rfl⟩
  rw [hg] at HST
  clear ho0 he0 hb2 hrl hx0l hw2 hni hsi hki HA C0
  have HN1 := Lib.hid (new_small n s k)
  go_upto_block 0 with fail
  go_cut [12] from 42 to 60 (fun s12 wr => ∃ (i : Nat) (A : Option Addr) (cap : Nat) (t : M.T) (xs : List X), s12 = .int .i64 (i : Int) ∧ Hid (Small 41 t) ∧ Hid (Staying w wr g n s A cap t xs))
  case first =>
    go_wp2_with fail
    go_loopw [12] (fun p wr => ∃ (i : Nat) (A : Option Addr) (cap : Nat) (t : M.T) (xs : List X), p = .int .i64 (i : Int) ∧ i ≤ nl ∧ i ≤ 40 ∧ Hid (Small (1 + i) t) ∧ Hid (Staying w wr g n s A cap t xs)) (fun p _ => 40 - (intOf p).toNat)
    case atStart => exact ⟨0, A0, c0, M.new n s k, xs0, rfl, Nat.zero_le _, by omega, HN1, HST⟩
    case round =>
      clear HST hc1 hm1
      obtain ⟨i, A, cap, t, xs, rfl, hi, hi40, HSM, HST⟩ := hrel
      rename World => wr
      by_cases hlt : i < nl
      · by_cases hlt40 : i < 40
        · have hst := HST.out
          have hil : i < l.length := by have := HNL.out; omega
          obtain ⟨bl, ol, rfl, hbl, hcl⟩ := HLC.out.2.2.2.2 (by omega)
          have hok := HLC.out.2.2.2.1 l[i] (List.getElem_mem hil)
          have hci := hcl i hil
          obtain ⟨x, hx⟩ : ∃ x, l[i] = x := ⟨_, rfl⟩
          rw [hx] at hci hok
          have hsw : w.heap.size ≤ wr.heap.size := hst.below.size
          have l0 := (hst.below.cell (p := ⟨bl, ol + i * 4, none⟩) hbl).trans hci.1
          have l1 := (hst.below.cell (p := ⟨bl, ol + i * 4 + 1, none⟩) hbl).trans hci.2.1
          have l2 := (hst.below.cell (p := ⟨bl, ol + i * 4 + 2, none⟩) hbl).trans hci.2.2.1
          have l3 := (hst.below.cell (p := ⟨bl, ol + i * 4 + 3, none⟩) hbl).trans hci.2.2.2
          have hdr : Below wr.heap.size wr wr.drew := ⟨rfl, rfl, rfl, Nat.le_refl _, fun _ _ => rfl⟩
          have HAP := Lib.hid (hst.call HN64.out x hok wr.drew hdr)
          have HSN := Lib.hid (show Small (1 + (i + 1)) (M.apply t x) from apply_small x HSM.out)
          have HSTO := Lib.hid (fun (w8 : World) (A4 : Option Addr) (c4 : Nat) (xs4 : List X) ho he (hb : Below wr.drew.heap.size wr.drew w8) => hst.store (w8 := w8) x (A4 := A4) (c4 := c4) (xs4 := xs4) ho he (below_undrew hb))
          have HBX := Lib.hid hst.box
          have k0 : wr.cell? ⟨g, 0, none⟩ = some (.int .i64 (n : Int)) := cellAt 0 hst.box
          have k1 : wr.cell? ⟨g, 1, none⟩ = some (.slice A s cap) := cellAt 1 hst.box
          have hgl : g < wr.heap.size := heapLt hst.box
          have hinl : (i : Int) < (nl : Int) := by omega
          clear hst hcl hci hok hx hdr hil HSM
          obtain ⟨kind, shard, node, rev⟩ := x
          unfold cval at HAP
          simp only at l0 l1 l2 l3 HAP
          go_wp2_with fail
          go_region_law (first
            | (refine step_call (by rfl) 17 #[.agg #[.int .i64 (n : Int), .slice A s cap], .agg #[.int .u8 (kind : Int), .int .i64 shard, .int .i64 node, .int .u64 (rev : Int)]] (by simp [Act.eval, go_sem]) (fun v => v) (AppOwn t (n : Int) s ⟨kind, shard, node, rev⟩ _) HAP.out ?_; rintro v3 w3 ⟨A3, c3, xs3, rfl, ho3, he3, hb3⟩
               have hz3 := (hb3.block g hgl).trans HBX.out
               have z30 : w3.cell? ⟨g, 0, none⟩ = some (.int .i64 (n : Int)) := cellAt 0 hz3
               have z31 : w3.cell? ⟨g, 1, none⟩ = some (.slice A s cap) := cellAt 1 hz3
               have zf0 : w3.frozen? ⟨g, 0, none⟩ = false := freeAt 0 hz3
               have zf1 : w3.frozen? ⟨g, 1, none⟩ = false := freeAt 1 hz3
               have HNX := Lib.hid (HSTO.out w3 A3 c3 xs3 ho3 he3 hb3)
               clear ho3 he3 hb3 hz3))
          all_goals
            go_wp2
            exact ⟨⟨i + 1, A3, c3, _, xs3, by go_num, by omega, by omega, HSN, HNX⟩, by simp [intOf]; omega⟩
        · have HSM2 := Lib.hid (HSM.out.more (show 1 + i ≤ 41 by omega))
          go_wp2_with fail
          go_meet
          exact ⟨i, A, cap, t, xs, rfl, HSM2, HST⟩
      · have HSM2 := Lib.hid (HSM.out.more (show 1 + i ≤ 41 by omega))
        go_wp2_with fail
        go_meet
        exact ⟨i, A, cap, t, xs, rfl, HSM2, HST⟩
  case rest =>
    clear HST hc1 hm1 HN1
    obtain ⟨i0, A, cap, t, xs, rfl, HSM, HST⟩ := hcut
    have HPT := Lib.hid (show M.pot t + 10 * ((0 : Nat) : Int) ≤ 400 by have := M.pot_le (t := t) (by have := HST.out.len; omega); omega)
    go_wp2
    go_loopw [13] (fun p wr => ∃ (i : Nat) (A : Option Addr) (cap : Nat) (t : M.T) (xs : List X), p = .int .i64 (i : Int) ∧ i ≤ 60 ∧ Hid (Small (41 + 3 * i) t) ∧ Hid (M.pot t + 10 * (i : Int) ≤ 400) ∧ Hid (Staying w wr g n s A cap t xs)) (fun p _ => 60 - (intOf p).toNat)
    case atStart => exact ⟨0, A, cap, t, xs, rfl, by omega, HSM, HPT, HST⟩
    case round =>
      clear HSM HPT HST
      obtain ⟨i, A, cap, t, xs, rfl, hi60, HSM, HPT, HST⟩ := hrel
      rename World => wr
      have hi40 : i ≤ 40 := by have := HPT.out; have := M.pot_nonneg t; omega
      clear hi60
      have hst := HST.out
      have HPL := Lib.hid (show Calls Try.prog 22 #[.agg #[.int .i64 (n : Int), .slice A s cap]] wr (PlanOf t wr) by
        have := plan_any A s cap t wr hst.tab (by rw [hst.nodes]; exact HN64.out)
        rwa [hst.nodes] at this)
      have k0 : wr.cell? ⟨g, 0, none⟩ = some (.int .i64 (n : Int)) := cellAt 0 hst.box
      have k1 : wr.cell? ⟨g, 1, none⟩ = some (.slice A s cap) := cellAt 1 hst.box
      unfold PlanOf at HPL
      cases hmv : M.moves t with
      | false =>
        rw [hmv] at HPL
        have HBF := Lib.hid hst.below
        clear hst hmv
        generalize M.pS t = ps at *
        generalize M.pF t = pf at *
        generalize M.pG t = pg at *
        go_wp2_with fail
        refine HPL.out.mono ?_
        rintro e w3 ⟨rfl, hb3⟩
        have HB3 := Lib.hid (HBF.out.trans (hb3.mono HBF.out.size))
        clear hb3 k0 k1
        go_wp2
        go_ret
        exact ⟨rfl, HB3.out⟩
      | true =>
        rw [hmv] at HPL
        obtain ⟨S, F, G, u, v, x, e1, e2, e3, hS, hF, hG, hu, hf1, hv1, hv2, hx, hf3, hsu, hsv, hsx, hlu, hlv, hpot⟩ := even_facts hmv HSM.out (by omega)
        rw [e1, e2, e3] at HPL
        have hcap : s ≤ cap ∧ cap ≤ 9223372036854775807 := ⟨hst.tab.bounds.1, hst.tab.bounds.2.1⟩
        obtain ⟨hcap1, hcap2⟩ := hcap
        have hSs : S < s := by have := hst.len; omega
        have hF5 : F < 5 := by have := hst.nodes; omega
        have hG5 : G < 5 := by have := hst.nodes; omega
        have HOK1 := Lib.hid (on_ok (s := S) (node := G) (kind := 2) (by omega) (by omega) (by omega) HSM.out (by omega) hS)
        have HOK2 := Lib.hid (on_ok (t := u) (s := S) (node := G) (kind := 1) (by omega) (by omega) (by omega) hsu (by omega) (by omega))
        have HOK3 := Lib.hid (on_ok (t := v) (s := S) (node := F) (kind := 3) (by omega) (by omega) (by omega) hsv (by omega) (by omega))
        have HLT := Lib.hid hS; have HLU := Lib.hid (show S < u.rows.length by omega); have HLV := Lib.hid (show S < v.rows.length by omega)
        have HU := Lib.hid hu; have HF1 := Lib.hid hf1; have HV1 := Lib.hid hv1; have HV2 := Lib.hid hv2; have HX := Lib.hid hx; have HF3 := Lib.hid hf3
        have HSX := Lib.hid (hsx.more (show 41 + 3 * i + 3 ≤ 41 + 3 * (i + 1) by omega))
        have HPX := Lib.hid (show M.pot x + 10 * ((i + 1 : Nat) : Int) ≤ 400 by have := HPT.out; omega)
        clear e1 e2 e3 hS hF hG hu hf1 hv1 hv2 hx hf3 hsu hsv hsx hlu hlv hpot hmv HSM HPT
        go_wp2_with fail
        refine HPL.out.mono ?_
        rintro e w3 ⟨rfl, hb3⟩
        have HS3 := Lib.hid (show Staying w w3 g n s A cap t xs from ⟨(hb3.block g (heapLt hst.box)).trans hst.box, hst.own.below hb3, hst.same, hst.nodes, hst.len, hst.form, hst.fit, hst.low, hst.below.trans (hb3.mono hst.below.size)⟩)
        clear hb3 k0 k1 hst HPL HST
        obtain ⟨b, off, rfl, r0, r2, hbl, -, -⟩ := HS3.out.row HLT.out
        have k0 : w3.cell? ⟨g, 0, none⟩ = some (.int .i64 (n : Int)) := cellAt 0 HS3.out.box
        have k1 : w3.cell? ⟨g, 1, none⟩ = some (.slice (some ⟨b, off, none⟩) s cap) := cellAt 1 HS3.out.box
        have hgl : g < w3.heap.size := heapLt HS3.out.box
        have hSI : (S : Int) < (s : Int) := by omega
        have hdr : Below w3.heap.size w3 w3.drew := ⟨rfl, rfl, rfl, Nat.le_refl _, fun _ _ => rfl⟩
        have hda : Below w3.heap.size w3 (w3.alloc (.cells #[.int .i64 0, .slice none 0 0] 24)).drew := by
          have h := bel_alloc' w3 (.cells #[.int .i64 0, .slice none 0 0] 24)
          exact ⟨h.os, h.tape, h.output, h.size, h.block⟩
        have HAP := Lib.hid (show ∀ W, Below w3.heap.size w3 W → Calls Try.prog 17 #[.agg #[.int .i64 (n : Int), .slice (some ⟨b, off, none⟩) s cap], .agg #[.int .u8 2, .int .i64 (S : Int), .int .i64 (G : Int), .int .u64 ((rowAt t S).rev : Int)]] W fun e w' => ∃ v, e = .returned v ∧ AppOwn t (n : Int) s (cmdOn t S 2 G) W v w' from fun W hW => HS3.out.call HN64.out _ HOK1.out W hW)
        have HZD := Lib.hid (show (w3.alloc (.cells #[.int .i64 0, .slice none 0 0] 24)).drew.heap[w3.heap.size]? = some (.cells #[.int .i64 0, .slice none 0 0] 24 (0, 0)) from heapNew (w := w3) _)
        have HDR := Lib.hid hdr; have HDA := Lib.hid hda
        clear hdr hda r2
        generalize (rowAt t S).rev = rv1 at *
        go_upto_region 19 with (fail)
        go_cut [18, 19] from 61 to 139 (fun s18 s19 wx => ∃ (g3 : Nat) (A3 : Option Addr) (c3 : Nat) (xs3 : List X), s18 = .pointer (some ⟨g3, 0, none⟩) ∧ s19 = .bool true ∧ g < g3 ∧ Hid (Staying w wx g3 n s A3 c3 u xs3) ∧ Hid (wx.heap[g]? = some (.cells #[.int .i64 (n : Int), .slice (some ⟨b, off, none⟩) s cap] 24 (0, 0))))
        case first =>
          go_region_law (first
            | (refine step_call (by rfl) 17 #[.agg #[.int .i64 (n : Int), .slice (some ⟨b, off, none⟩) s cap], .agg #[.int .u8 2, .int .i64 (S : Int), .int .i64 (G : Int), .int .u64 (rv1 : Int)]] (by simp [Act.eval, go_sem]) (fun v => v) (AppOwn t (n : Int) s (cmdOn t S 2 G) _) (HAP.out (w3.alloc (.cells #[.int .i64 0, .slice none 0 0] 24)).drew HDA.out) ?_; rintro v4 w4 ⟨A4, c4, xs4, rfl, ho4, he4, hb4⟩
               have hz4 := (hb4.block w3.heap.size (heapLt HZD.out)).trans HZD.out
               have z40 : w4.cell? ⟨w3.heap.size, 0, none⟩ = some (.int .i64 0) := cellAt 0 hz4
               have z41 : w4.cell? ⟨w3.heap.size, 1, none⟩ = some (.slice none 0 0) := cellAt 1 hz4
               have zf0 : w4.frozen? ⟨w3.heap.size, 0, none⟩ = false := freeAt 0 hz4
               have zf1 : w4.frozen? ⟨w3.heap.size, 1, none⟩ = false := freeAt 1 hz4
               have HO4 := Lib.hid ho4; have HE4 := Lib.hid he4; have HB4 := Lib.hid hb4; have HZ4 := Lib.hid hz4
               clear ho4 he4 hb4 hz4)
            | (refine step_call (by rfl) 17 #[.agg #[.int .i64 (n : Int), .slice (some ⟨b, off, none⟩) s cap], .agg #[.int .u8 2, .int .i64 (S : Int), .int .i64 (G : Int), .int .u64 (rv1 : Int)]] (by simp [Act.eval, go_sem]) (fun v => v) (AppOwn t (n : Int) s (cmdOn t S 2 G) _) (HAP.out w3.drew HDR.out) ?_; rintro v4 w4 ⟨A4, c4, xs4, rfl, ho4, he4, hb4⟩
               have HO4 := Lib.hid ho4; have HE4 := Lib.hid he4; have HB4 := Lib.hid hb4
               clear ho4 he4 hb4))
          all_goals
            go_wp2_with fail
            go_meet
          all_goals first
            | exact even_cut (stepped_set HZ4.out HO4.out HE4.out HB4.out) HS3.out HU.out HF1.out
            | exact even_cut (stepped_new HO4.out HE4.out HB4.out) HS3.out HU.out HF1.out
        case rest =>
          have HLOW := Lib.hid (show w.heap.size ≤ g from HS3.out.low)
          clear HAP HZD HDR HDA k0 k1 r0 HS3 HOK1 HLT HU HF1
          obtain ⟨g3, A3, c3, xs3, rfl, rfl, hgg, HS4, HBG⟩ := hcut
          have hgne : g ≠ g3 := by omega
          obtain ⟨b3, o3, rfl, r0, r2, hbl3, hc3a, hc3b⟩ := HS4.out.row HLU.out
          have j0 : wc.cell? ⟨g3, 0, none⟩ = some (.int .i64 (n : Int)) := cellAt 0 HS4.out.box
          have j1 : wc.cell? ⟨g3, 1, none⟩ = some (.slice (some ⟨b3, o3, none⟩) s c3) := cellAt 1 HS4.out.box
          have hg3l : g3 < wc.heap.size := heapLt HS4.out.box
          rcases Decidable.em ((rowAt u S).prim = (F : Int)) with hp | hp
          · obtain ⟨hv, hf2⟩ := HV1.out hp
            rw [hp] at r2
            have HAP2 := Lib.hid (show Calls Try.prog 17 #[.agg #[.int .i64 (n : Int), .slice (some ⟨b3, o3, none⟩) s c3], .agg #[.int .u8 1, .int .i64 (S : Int), .int .i64 (G : Int), .int .u64 ((rowAt u S).rev : Int)]] wc.drew fun e w' => ∃ y, e = .returned y ∧ AppYes v (n : Int) s wc.drew y w' from HS4.out.yes HN64.out _ HOK2.out hf2 hv wc.drew ⟨rfl, rfl, rfl, Nat.le_refl _, fun _ _ => rfl⟩)
            have HPUT2 := Lib.hid (fun (w8 : World) (A4 : Option Addr) (c4 : Nat) (xs4 : List X) ho he hb => HS4.out.put (w8 := w8) _ hv (A4 := A4) (c4 := c4) (xs4 := xs4) ho he hb)
            have hff : ((F : Int) == (F : Int)) = true := by simp
            clear hp hv hf2 HV1 HV2
            generalize (rowAt u S).rev = rv2 at *
            go_wp2_with fail
            go_region_law (first
              | (refine step_call (by rfl) 17 #[.agg #[.int .i64 (n : Int), .slice (some ⟨b3, o3, none⟩) s c3], .agg #[.int .u8 1, .int .i64 (S : Int), .int .i64 (G : Int), .int .u64 (rv2 : Int)]] (by simp [Act.eval, go_sem]) (fun v => v) (AppYes v (n : Int) s _) HAP2.out ?_; rintro v5 w5 ⟨A5, c5, xs5, rfl, ho5, he5, hb5⟩
                 have hz5 := (hb5.block g3 (heapLt HS4.out.box)).trans HS4.out.box
                 have z50 : w5.cell? ⟨g3, 0, none⟩ = some (.int .i64 (n : Int)) := cellAt 0 hz5
                 have z51 : w5.cell? ⟨g3, 1, none⟩ = some (.slice (some ⟨b3, o3, none⟩) s c3) := cellAt 1 hz5
                 have zf50 : w5.frozen? ⟨g3, 0, none⟩ = false := freeAt 0 hz5
                 have zf51 : w5.frozen? ⟨g3, 1, none⟩ = false := freeAt 1 hz5
                 have hg5 := (hb5.block g (heapLt HBG.out)).trans HBG.out
                 have HN5 := Lib.hid (HPUT2.out w5 A5 c5 xs5 ho5 he5 hb5)
                 have HG5 := Lib.hid (far2 (h := g3) (u := .int .i64 (n : Int)) (v := .slice A5 s c5) hg5 hgne)
                 clear ho5 he5 hb5 hz5 hg5))
            all_goals
              obtain ⟨w6, hw6⟩ : ∃ w6, w6 = ((w5.setCell ⟨g3, 0, none⟩ (.int .i64 (n : Int))).setCell ⟨g3, 1, none⟩ (.slice A5 s c5)) := ⟨_, rfl⟩
              rw [← hw6] at HN5 HG5
              have HW6 := Lib.hid hw6.symm
              clear hw6 z50 z51 zf50 zf51 j0 j1 r0 r2 HAP2 HPUT2
              rw [HW6.out]
              obtain ⟨b6, o6, rfl, r0, r2, hbl6, hc6a, hc6b⟩ := HN5.out.row HLV.out
              have j0 : w6.cell? ⟨g3, 0, none⟩ = some (.int .i64 (n : Int)) := cellAt 0 HN5.out.box
              have j1 : w6.cell? ⟨g3, 1, none⟩ = some (.slice (some ⟨b6, o6, none⟩) s c5) := cellAt 1 HN5.out.box
              have hg3l : g3 < w6.heap.size := heapLt HN5.out.box
              clear r2
              have HAP3 := Lib.hid (show Calls Try.prog 17 #[.agg #[.int .i64 (n : Int), .slice (some ⟨b6, o6, none⟩) s c5], .agg #[.int .u8 3, .int .i64 (S : Int), .int .i64 (F : Int), .int .u64 ((rowAt v S).rev : Int)]] w6.drew fun e w' => ∃ y, e = .returned y ∧ AppYes x (n : Int) s w6.drew y w' from HN5.out.yes HN64.out _ HOK3.out HF3.out HX.out w6.drew ⟨rfl, rfl, rfl, Nat.le_refl _, fun _ _ => rfl⟩)
              have HPUT3 := Lib.hid (fun (w8 : World) (A4 : Option Addr) (c4 : Nat) (xs4 : List X) ho he hb => HN5.out.put (w8 := w8) _ HX.out (A4 := A4) (c4 := c4) (xs4 := xs4) ho he hb)
              generalize (rowAt v S).rev = rv3 at *
              go_wp2_with fail
              go_region_law (first
                | (refine step_call (by rfl) 17 #[.agg #[.int .i64 (n : Int), .slice (some ⟨b6, o6, none⟩) s c5], .agg #[.int .u8 3, .int .i64 (S : Int), .int .i64 (F : Int), .int .u64 (rv3 : Int)]] (by simp [Act.eval, go_sem]) (fun v => v) (AppYes x (n : Int) s _) HAP3.out ?_; rintro v7 w7 ⟨A7, c7, xs7, rfl, ho7, he7, hb7⟩
                   have hz7 := (hb7.block g3 (heapLt HN5.out.box)).trans HN5.out.box
                   have z70 : w7.cell? ⟨g3, 0, none⟩ = some (.int .i64 (n : Int)) := cellAt 0 hz7
                   have z71 : w7.cell? ⟨g3, 1, none⟩ = some (.slice (some ⟨b6, o6, none⟩) s c5) := cellAt 1 hz7
                   have zf70 : w7.frozen? ⟨g3, 0, none⟩ = false := freeAt 0 hz7
                   have zf71 : w7.frozen? ⟨g3, 1, none⟩ = false := freeAt 1 hz7
                   have hg7 := (hb7.block g (heapLt HG5.out)).trans HG5.out
                   have HN7 := Lib.hid (HPUT3.out w7 A7 c7 xs7 ho7 he7 hb7)
                   have HG7 := Lib.hid (far2 (h := g3) (u := .int .i64 (n : Int)) (v := .slice A7 s c7) hg7 hgne)
                   clear ho7 he7 hb7 hz7 hg7))
              all_goals
                obtain ⟨w9, hw9⟩ : ∃ w9, w9 = ((w7.setCell ⟨g3, 0, none⟩ (.int .i64 (n : Int))).setCell ⟨g3, 1, none⟩ (.slice A7 s c7)) := ⟨_, rfl⟩
                rw [← hw9] at HN7 HG7
                have HW9 := Lib.hid hw9.symm
                clear hw9 z70 z71 zf70 zf71
                rw [HW9.out]
                have q0 : w9.cell? ⟨g3, 0, none⟩ = some (.int .i64 (n : Int)) := cellAt 0 HN7.out.box
                have q1 : w9.cell? ⟨g3, 1, none⟩ = some (.slice A7 s c7) := cellAt 1 HN7.out.box
                have q2 : w9.cell? ⟨g, 0, none⟩ = some (.int .i64 (n : Int)) := cellAt 0 HG7.out
                have q3 : w9.cell? ⟨g, 1, none⟩ = some (.slice (some ⟨b, off, none⟩) s cap) := cellAt 1 HG7.out
                have q4 : w9.frozen? ⟨g, 0, none⟩ = false := freeAt 0 HG7.out
                have q5 : w9.frozen? ⟨g, 1, none⟩ = false := freeAt 1 HG7.out
                have HNX := Lib.hid (HN7.out.over HG7.out HLOW.out)
                go_wp2
                exact ⟨⟨i + 1, A7, c7, x, xs7, by go_num, by omega, HSX, HPX, HNX⟩, by simp [intOf]; omega⟩
          · have hv := HV2.out hp
            have hpb : ((rowAt u S).prim == (F : Int)) = false := by simpa using hp
            subst hv
            clear HV1 HV2 HOK2 HLU
            generalize (rowAt v S).prim = pr at *
            have HAP3 := Lib.hid (show Calls Try.prog 17 #[.agg #[.int .i64 (n : Int), .slice (some ⟨b3, o3, none⟩) s c3], .agg #[.int .u8 3, .int .i64 (S : Int), .int .i64 (F : Int), .int .u64 ((rowAt v S).rev : Int)]] wc.drew fun e w' => ∃ y, e = .returned y ∧ AppYes x (n : Int) s wc.drew y w' from HS4.out.yes HN64.out _ HOK3.out HF3.out HX.out wc.drew ⟨rfl, rfl, rfl, Nat.le_refl _, fun _ _ => rfl⟩)
            have HPUT3 := Lib.hid (fun (w8 : World) (A4 : Option Addr) (c4 : Nat) (xs4 : List X) ho he hb => HS4.out.put (w8 := w8) _ HX.out (A4 := A4) (c4 := c4) (xs4 := xs4) ho he hb)
            generalize (rowAt v S).rev = rv3 at *
            go_wp2_with fail
            go_region_law (first
              | (refine step_call (by rfl) 17 #[.agg #[.int .i64 (n : Int), .slice (some ⟨b3, o3, none⟩) s c3], .agg #[.int .u8 3, .int .i64 (S : Int), .int .i64 (F : Int), .int .u64 (rv3 : Int)]] (by simp [Act.eval, go_sem]) (fun v => v) (AppYes x (n : Int) s _) HAP3.out ?_; rintro v7 w7 ⟨A7, c7, xs7, rfl, ho7, he7, hb7⟩
                 have hz7 := (hb7.block g3 (heapLt HS4.out.box)).trans HS4.out.box
                 have z70 : w7.cell? ⟨g3, 0, none⟩ = some (.int .i64 (n : Int)) := cellAt 0 hz7
                 have z71 : w7.cell? ⟨g3, 1, none⟩ = some (.slice (some ⟨b3, o3, none⟩) s c3) := cellAt 1 hz7
                 have zf70 : w7.frozen? ⟨g3, 0, none⟩ = false := freeAt 0 hz7
                 have zf71 : w7.frozen? ⟨g3, 1, none⟩ = false := freeAt 1 hz7
                 have hg7 := (hb7.block g (heapLt HBG.out)).trans HBG.out
                 have HN7 := Lib.hid (HPUT3.out w7 A7 c7 xs7 ho7 he7 hb7)
                 have HG7 := Lib.hid (far2 (h := g3) (u := .int .i64 (n : Int)) (v := .slice A7 s c7) hg7 hgne)
                 clear ho7 he7 hb7 hz7 hg7))
            all_goals
              obtain ⟨w9, hw9⟩ : ∃ w9, w9 = ((w7.setCell ⟨g3, 0, none⟩ (.int .i64 (n : Int))).setCell ⟨g3, 1, none⟩ (.slice A7 s c7)) := ⟨_, rfl⟩
              rw [← hw9] at HN7 HG7
              have HW9 := Lib.hid hw9.symm
              clear hw9 z70 z71 zf70 zf71
              rw [HW9.out]
              have q0 : w9.cell? ⟨g3, 0, none⟩ = some (.int .i64 (n : Int)) := cellAt 0 HN7.out.box
              have q1 : w9.cell? ⟨g3, 1, none⟩ = some (.slice A7 s c7) := cellAt 1 HN7.out.box
              have q2 : w9.cell? ⟨g, 0, none⟩ = some (.int .i64 (n : Int)) := cellAt 0 HG7.out
              have q3 : w9.cell? ⟨g, 1, none⟩ = some (.slice (some ⟨b, off, none⟩) s cap) := cellAt 1 HG7.out
              have q4 : w9.frozen? ⟨g, 0, none⟩ = false := freeAt 0 HG7.out
              have q5 : w9.frozen? ⟨g, 1, none⟩ = false := freeAt 1 HG7.out
              have HNX := Lib.hid (HN7.out.over HG7.out HLOW.out)
              go_wp2
              exact ⟨⟨i + 1, A7, c7, x, xs7, by go_num, by omega, HSX, HPX, HNX⟩, by simp [intOf]; omega⟩
end Go.Proofs.Ytghnelfgnfhclaa
