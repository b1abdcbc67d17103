/-
  The law MetaApplies, by the contracts.
-/
import Derived.Test.YtghnelfgnfhclaaMetaSe
namespace Go.Proofs.Ytghnelfgnfhclaa
open Go.RowKit Mem Go.ChangeShapes
set_option linter.unusedVariables false
set_option maxRecDepth 100000

theorem appR_any (A : Option Addr) (s cap : Nat) (t : M.T) (c : M.C) (n : Int) (w : World) (B : Nat) (hB : B ≤ w.heap.size) (h : TabIs w B A s cap t) (hn : t.nodes = n) (hi : I64 n) (hc : CmdOk c) :
    Calls Try.prog 18 #[.agg #[.int .i64 n, .slice A s cap], cval c] w fun e w' => ∃ v, e = .returned v ∧ AppR t n s c B w v w' := by
  subst hn
  refine (refApply_tab A s cap t c w B hB h hi hc).mono ?_
  rintro e w' ⟨A', c', rfl, ho, hb⟩
  exact ⟨_, rfl, A', c', rfl, ho, hb⟩

theorem own_tab {w : World} {base s c : Nat} {A : Option Addr} {xs : List X} {t : M.T} (h : OwnXs w base (.slice A s c) xs) (he : xs.map X.r = t.rows) (hf : FitT t) (hl : t.rows.length = s) : TabIs w w.heap.size A s c t := by
  obtain ⟨A', c', e, ht⟩ := tab_of_own h he hf
  injection e with e1 e2 e3
  subst e1 e3
  rw [hl] at ht
  exact ht
theorem own_rdx {w : World} {base s c : Nat} {A : Option Addr} {xs : List X} {t : M.T} (h : OwnXs w base (.slice A s c) xs) (he : xs.map X.r = t.rows) (hf : FitT t) : RdXs w w.heap.size A s c xs := by
  obtain ⟨A', c', e, hx⟩ := h.rd (fun x hx => hf.2.2 x.r (by rw [← he]; exact List.mem_map_of_mem hx)) (by have := hf.2.1; rw [← he, List.length_map] at this; exact this)
  injection e with e1 e2 e3
  subst e1 e2 e3
  exact hx
/-- the block in which rows lie -/
theorem own_block {w : World} {base s c : Nat} {A : Option Addr} {xs : List X} (h : OwnXs w base (.slice A s c) xs) (hs : 0 < s) (hl : xs.length = s) : ∃ b cur, A = some ⟨b, 0, none⟩ ∧ w.heap[b]? = some (.cells cur 42 (0, 0)) := by
  rcases h.row.2 with ⟨_, h0⟩ | ⟨b, cap, cur, e, _, hh, _⟩
  · omega
  · injection e with e1
    exact ⟨b, cur, e1, hh⟩
/-- the numbers' blocks are no block of another kind -/
theorem not_wiped {w : World} {base : Nat} {v : Value} {xs : List X} (h : OwnXs w base v xs) {g : Nat} {cur : Array Value} {e : TypeId} {fr : Nat × Nat} (hg : w.heap[g]? = some (.cells cur e fr)) (hne : 3 ≠ e) : ¬ ∃ x ∈ xs, x.sl.ownBlock = some g := by
  rintro ⟨x, hx, hq⟩
  exact block_ne (h.sl x hx) hg hne hq
theorem UBox.next {w0 wz : World} {g s c8 base : Nat} {nz : Int} {A A8 : Option Addr} {cap : Nat} {t : M.T} {xs8 : List X} (ho : OwnXs wz base (.slice A8 s c8) xs8) (he : xs8.map X.r = t.rows) (hf : FitT t) (hl : t.rows.length = s) (hn : t.nodes = nz) (hz : wz.heap[g]? = some (.cells #[.int .i64 nz, .slice A s cap] 24 (0, 0))) (hlow : w0.heap.size ≤ g) (hb : Below w0.heap.size w0 wz) :
    UBox w0 ((wz.setCell ⟨g, 0, none⟩ (.int .i64 nz)).setCell ⟨g, 1, none⟩ (.slice A8 s c8)) g nz s A8 c8 t := by
  have hT : Turned (· = g) wz ((wz.setCell ⟨g, 0, none⟩ (.int .i64 nz)).setCell ⟨g, 1, none⟩ (.slice A8 s c8)) :=
    Turned.setCell (F := (· = g)) (Turned.setCell (F := (· = g)) (Turned.refl _ wz) (p := ⟨g, 0, none⟩) (.inl rfl) _) (p := ⟨g, 1, none⟩) (.inl rfl) _
  have ho2 := ho.turned hT (fun q hq e => block_ne ho.row hz (by decide) (by rw [hq, e])) (fun x hx q hq e => block_ne (ho.sl x hx) hz (by decide) (by rw [hq, e]))
  exact ⟨heapSet 1 _ (heapSet 0 _ hz), own_tab ho2 he hf hl, hn, hf, hlow, (hb.setCell (p := ⟨g, 0, none⟩) hlow _).setCell (p := ⟨g, 1, none⟩) hlow _⟩

set_option maxHeartbeats 8000000 in
theorem metaApplies_any (t0 : M.T) (A0 : Option Addr) (s cap0 : Nat) (Al : Option Addr) (nl cl : Nat) (l : List M.C) (w : World) (ht : TabIs w w.heap.size A0 s cap0 t0) (hi : I64 t0.nodes) (hl : RdCs w w.heap.size Al nl cl l) :
    Calls Try.prog 4 #[.agg #[.int .i64 t0.nodes, .slice A0 s cap0], .slice Al nl cl] w (SaysB true w) := by
  have HA := Lib.hid (fun W => awake14_any W)
  have HLC := Lib.hid hl
  have hnl1 := hl.2.1; have hnl2 := hl.2.2.1
  have HNL := Lib.hid hl.1
  have HT0 := Lib.hid ht
  have HF0 := Lib.hid (ht.rdt hi).fit
  obtain ⟨hc1, hm1, hlight⟩ := ht.bounds
  obtain ⟨nz, hnz⟩ : ∃ nz, nz = t0.nodes := ⟨_, rfl⟩
  have HNZ := Lib.hid hnz.symm
  have HI64 := Lib.hid (show I64 nz by rw [hnz]; exact hi)
  rw [← hnz]
  clear hl ht hi hnz
  obtain ⟨w1, hw1⟩ : ∃ w1, w1 = w.alloc (.cells #[.int .i64 nz, .slice A0 s cap0] 24) := ⟨_, rfl⟩
  have hbx : w1.heap[w.heap.size]? = some (.cells #[.int .i64 nz, .slice A0 s cap0] 24 (0, 0)) := by rw [hw1]; exact heapNew (w := w) _
  have HB1 := Lib.hid (show Below w.heap.size w w1 by rw [hw1]; exact bel_alloc' w _)
  have HBX := Lib.hid hbx
  have HW1 := Lib.hid hw1.symm
  clear hw1 hbx
  go_enter Try.func4, Try.ntmps4
  go_upto_region 1 with (fail)
  rw [HW1.out]
  go_wp2_with fail
  refine (HA.out w1).mono ?_
  rintro e w2 ⟨rfl, hb2⟩
  have HB2 := Lib.hid (HB1.out.trans (hb2.mono HB1.out.size))
  have hbx2 := (hb2.block w.heap.size (heapLt HBX.out)).trans HBX.out
  have k0 : w2.cell? ⟨w.heap.size, 0, none⟩ = some (.int .i64 nz) := cellAt 0 hbx2
  have k1 : w2.cell? ⟨w.heap.size, 1, none⟩ = some (.slice A0 s cap0) := cellAt 1 hbx2
  clear hb2 hbx2
  obtain ⟨w3, hw3⟩ : ∃ w3, w3 = w2.alloc (.cells #[.int .i64 nz, .slice A0 s cap0] 24) := ⟨_, rfl⟩
  obtain ⟨g, hg⟩ : ∃ g, g = w2.heap.size := ⟨_, rfl⟩
  have HU := Lib.hid (show UBox w w3 g nz s A0 cap0 t0 by
    have hb3 : Below w.heap.size w w3 := by rw [hw3]; exact HB2.out.alloc HB2.out.size _
    exact ⟨by rw [hw3, hg]; exact heapNew (w := w2) _, HT0.out.on hb3, HNZ.out, HF0.out, by rw [hg]; exact HB2.out.size, hb3⟩)
  have HW3 := Lib.hid hw3.symm; have HG := Lib.hid hg.symm
  clear hw3 hg
  go_upto_region 4 with (fail)
  rw [HW3.out, HG.out]
  clear k0 k1
  go_wp2
  go_loopw [6] (fun p wr => ∃ (i : Nat) (A : Option Addr) (cap : Nat) (t : M.T), p = .int .i64 (i : Int) ∧ i ≤ nl ∧ i ≤ 50 ∧ Hid (UBox w wr g nz s A cap t)) (fun p _ => 50 - (intOf p).toNat)
  case atStart => exact ⟨0, A0, cap0, t0, rfl, Nat.zero_le _, by omega, HU⟩
  case round =>
    clear HU hc1 hm1
    obtain ⟨i, A, cap, t, rfl, hin, hi50, HU⟩ := hrel
    rename World => wr
    by_cases hlt : i < nl
    · by_cases hlt50 : i < 50
      · have hu := HU.out
        have hil : i < l.length := by have := HNL.out; omega
        obtain ⟨bl, ol, rfl, hbl, hcl⟩ := HLC.out.2.2.2.2 (by omega)
        have hok := HLC.out.2.2.2.1 l[i] (List.getElem_mem hil)
        have hci := hcl i hil
        obtain ⟨x, hx⟩ : ∃ x, l[i] = x := ⟨_, rfl⟩
        rw [hx] at hci hok
        have HLW := Lib.hid (show ∀ W, Below w.heap.size w W → (W.cell? ⟨bl, ol + i * 4, none⟩ = some (.int .u8 (x.kind : Int)) ∧ W.cell? ⟨bl, ol + i * 4 + 1, none⟩ = some (.int .i64 x.shard) ∧ W.cell? ⟨bl, ol + i * 4 + 2, none⟩ = some (.int .i64 x.node) ∧ W.cell? ⟨bl, ol + i * 4 + 3, none⟩ = some (.int .u64 (x.rev : Int))) from fun W h1 =>
          ⟨(h1.cell (p := ⟨bl, ol + i * 4, none⟩) hbl).trans hci.1, (h1.cell (p := ⟨bl, ol + i * 4 + 1, none⟩) hbl).trans hci.2.1, (h1.cell (p := ⟨bl, ol + i * 4 + 2, none⟩) hbl).trans hci.2.2.1, (h1.cell (p := ⟨bl, ol + i * 4 + 3, none⟩) hbl).trans hci.2.2.2⟩)
        have HOK := Lib.hid hok
        have hinl : (i : Int) < (nl : Int) := by omega
        have HCP := Lib.hid (show Calls Try.prog 16 #[.agg #[.int .i64 nz, .slice A s cap]] wr fun e w' => ∃ v' xs, e = .returned (.agg #[.int .i64 nz, v']) ∧ OwnXs w' wr.heap.size v' xs ∧ xs.map X.r = t.rows ∧ Below wr.heap.size wr w' by
          have := copy_any _ t wr (hu.tab.rdt (by rw [hu.nodes]; exact HI64.out))
          rwa [hu.nodes] at this)
        have k0 : wr.cell? ⟨g, 0, none⟩ = some (.int .i64 nz) := cellAt 0 hu.box
        have k1 : wr.cell? ⟨g, 1, none⟩ = some (.slice A s cap) := cellAt 1 hu.box
        have hlen := hu.tab.len
        have HLEN := Lib.hid hlen
        clear hci hok hx hil hcl hu hlen
        go_wp2_with fail
        refine HCP.out.mono ?_
        rintro e w4 ⟨v7, xs7, rfl, ho7, he7, hb7⟩
        obtain ⟨A7, c7, e7, hc7, hcm7⟩ := row_form ho7.row
        have hl7 : xs7.length = s := by have := congrArg List.length he7; rw [List.length_map, ← HLEN.out] at this; exact this
        rw [hl7] at e7 hc7
        subst e7
        obtain ⟨w5, hw5⟩ : ∃ w5, w5 = w4.alloc (.cells #[.int .i64 nz, .slice A7 s c7] 24) := ⟨_, rfl⟩
        obtain ⟨h7, hh7⟩ : ∃ h7, h7 = w4.heap.size := ⟨_, rfl⟩
        have hb5 : Below wr.heap.size wr w5 := by rw [hw5]; exact hb7.alloc hb7.size _
        have HB5 := Lib.hid hb5
        have HX7 := Lib.hid (show w5.heap[h7]? = some (.cells #[.int .i64 nz, .slice A7 s c7] 24 (0, 0)) by rw [hw5, hh7]; exact heapNew (w := w4) _)
        have HO7 := Lib.hid (show OwnXs w5 wr.heap.size (.slice A7 s c7) xs7 by rw [hw5]; exact ho7.below (bel_alloc' w4 _))
        have HE7 := Lib.hid he7
        have HL7 := Lib.hid hl7
        have HW5 := Lib.hid hw5.symm; have HH7 := Lib.hid hh7.symm
        clear hw5 hh7 ho7 he7 hb7 hb5 hl7 k0 k1 HCP
        go_upto_region 8 with (fail)
        rw [HW5.out, HH7.out]
        have hw5s := HB5.out.size
        have HBW5 := Lib.hid (HU.out.below.trans (HB5.out.mono HU.out.below.size))
        have hboxg := (HB5.out.block g (heapLt HU.out.box)).trans HU.out.box
        have HBG5 := Lib.hid hboxg
        have k0 : w5.cell? ⟨g, 0, none⟩ = some (.int .i64 nz) := cellAt 0 hboxg
        have k1 : w5.cell? ⟨g, 1, none⟩ = some (.slice A s cap) := cellAt 1 hboxg
        obtain ⟨l0, l1, l2, l3⟩ := HLW.out w5 HBW5.out
        have hgl : g < w5.heap.size := heapLt hboxg
        have hbl2 : bl < w5.heap.size := by have := HBW5.out.size; omega
        have hdr : Below w5.heap.size w5 w5.drew := ⟨rfl, rfl, rfl, Nat.le_refl _, fun _ _ => rfl⟩
        have hda : Below w5.heap.size w5 (w5.alloc (.cells #[.int .i64 0, .slice none 0 0] 24)).drew := by
          have h := bel_alloc' w5 (.cells #[.int .i64 0, .slice none 0 0] 24)
          exact ⟨h.os, h.tape, h.output, h.size, h.block⟩
        have HDR := Lib.hid hdr; have HDA := Lib.hid hda
        have HAP := Lib.hid (show ∀ W, Below w5.heap.size w5 W → Calls Try.prog 17 #[.agg #[.int .i64 nz, .slice A s cap], cval x] W fun e w' => ∃ v, e = .returned v ∧ AppOwn t nz s x W v w' from fun W hW => appOwn_any A s cap t x nz W ((HU.out.tab.on HB5.out).on hW) HU.out.nodes HI64.out HLEN.out.symm HOK.out)
        have HZD := Lib.hid (show (w5.alloc (.cells #[.int .i64 0, .slice none 0 0] 24)).drew.heap[w5.heap.size]? = some (.cells #[.int .i64 0, .slice none 0 0] 24 (0, 0)) from heapNew (w := w5) _)
        clear hdr hda hboxg
        obtain ⟨kind, shard, node, rev⟩ := x
        unfold cval at HAP
        simp only at l0 l1 l2 l3 HAP HLW
        go_cut [8, 9] from 17 to 88 (fun s8 s9 wx => ∃ (g8 : Nat) (A8 : Option Addr) (c8 : Nat) (xs8 : List X), s8 = .pointer (some ⟨g8, 0, none⟩) ∧ s9 = .bool (M.fits t ⟨kind, shard, node, rev⟩) ∧ Hid (Stepped w5 wx g8 nz s A8 c8 t ⟨kind, shard, node, rev⟩ xs8))
        case first =>
          go_region_law (first
            | (refine step_call (by rfl) 17 #[.agg #[.int .i64 nz, .slice A s cap], .agg #[.int .u8 (kind : Int), .int .i64 shard, .int .i64 node, .int .u64 (rev : Int)]] (by simp [Act.eval, go_sem]) (fun v => v) (AppOwn t nz s ⟨kind, shard, node, rev⟩ _) (HAP.out (w5.alloc (.cells #[.int .i64 0, .slice none 0 0] 24)).drew HDA.out) ?_; rintro v6 w6 ⟨A6, c6, xs6, rfl, ho6, he6, hb6⟩
               have hz6 := (hb6.block w5.heap.size (heapLt HZD.out)).trans HZD.out
               have z60 : w6.cell? ⟨w5.heap.size, 0, none⟩ = some (.int .i64 0) := cellAt 0 hz6
               have z61 : w6.cell? ⟨w5.heap.size, 1, none⟩ = some (.slice none 0 0) := cellAt 1 hz6
               have zf0 : w6.frozen? ⟨w5.heap.size, 0, none⟩ = false := freeAt 0 hz6
               have zf1 : w6.frozen? ⟨w5.heap.size, 1, none⟩ = false := freeAt 1 hz6
               have HO6 := Lib.hid ho6; have HE6 := Lib.hid he6; have HB6 := Lib.hid hb6; have HZ6 := Lib.hid hz6
               clear ho6 he6 hb6 hz6)
            | (refine step_call (by rfl) 17 #[.agg #[.int .i64 nz, .slice A s cap], .agg #[.int .u8 (kind : Int), .int .i64 shard, .int .i64 node, .int .u64 (rev : Int)]] (by simp [Act.eval, go_sem]) (fun v => v) (AppOwn t nz s ⟨kind, shard, node, rev⟩ _) (HAP.out w5.drew HDR.out) ?_; rintro v6 w6 ⟨A6, c6, xs6, rfl, ho6, he6, hb6⟩
               have HO6 := Lib.hid ho6; have HE6 := Lib.hid he6; have HB6 := Lib.hid hb6
               clear ho6 he6 hb6))
          all_goals
            go_wp2_with fail
            go_meet
          all_goals first
            | exact ⟨_, A6, c6, xs6, rfl, rfl, Lib.hid (stepped_set HZ6.out HO6.out HE6.out HB6.out)⟩
            | exact ⟨_, A6, c6, xs6, rfl, rfl, Lib.hid (stepped_new HO6.out HE6.out HB6.out)⟩
        case rest =>
          obtain ⟨g8, A8, c8, xs8, rfl, rfl, HS8⟩ := hcut
          rename World => wc
          have HBWC := Lib.hid (HBW5.out.trans (HS8.out.below.mono HBW5.out.size))
          have hboxg := (HS8.out.below.block g hgl).trans HBG5.out
          have HBGC := Lib.hid hboxg
          clear k0 k1 l0 l1 l2 l3 HAP HZD HDR HDA
          have k0 : wc.cell? ⟨g, 0, none⟩ = some (.int .i64 nz) := cellAt 0 hboxg
          have k1 : wc.cell? ⟨g, 1, none⟩ = some (.slice A s cap) := cellAt 1 hboxg
          obtain ⟨l0, l1, l2, l3⟩ := HLW.out wc HBWC.out
          have hgc : g < wc.heap.size := heapLt hboxg
          have hblc : bl < wc.heap.size := by have := HBWC.out.size; omega
          have hdr : Below wc.heap.size wc wc.drew := ⟨rfl, rfl, rfl, Nat.le_refl _, fun _ _ => rfl⟩
          have hda : Below wc.heap.size wc (wc.alloc (.cells #[.int .i64 0, .slice none 0 0] 24)).drew := by
            have h := bel_alloc' wc (.cells #[.int .i64 0, .slice none 0 0] 24)
            exact ⟨h.os, h.tape, h.output, h.size, h.block⟩
          have HDR := Lib.hid hdr; have HDA := Lib.hid hda
          have HTC := Lib.hid (show TabIs wc wc.heap.size A s cap t from (HU.out.tab.on HB5.out).on HS8.out.below)
          have HAP := Lib.hid (show ∀ W, Below wc.heap.size wc W → Calls Try.prog 18 #[.agg #[.int .i64 nz, .slice A s cap], .agg #[.int .u8 (kind : Int), .int .i64 shard, .int .i64 node, .int .u64 (rev : Int)]] W fun e w' => ∃ v, e = .returned v ∧ AppR t nz s ⟨kind, shard, node, rev⟩ wc.heap.size W v w' from fun W hW => appR_any A s cap t ⟨kind, shard, node, rev⟩ nz W wc.heap.size hW.size (HTC.out.below hW) HU.out.nodes HI64.out HOK.out)
          have HZD := Lib.hid (show (wc.alloc (.cells #[.int .i64 0, .slice none 0 0] 24)).drew.heap[wc.heap.size]? = some (.cells #[.int .i64 0, .slice none 0 0] 24 (0, 0)) from heapNew (w := wc) _)
          clear hdr hda hboxg
          go_upto_region 9 with (fail)
          go_cut [10, 11] from 17 to 88 (fun s10 s11 wx => ∃ (g10 : Nat) (A10 : Option Addr) (c10 : Nat), s10 = .pointer (some ⟨g10, 0, none⟩) ∧ s11 = .bool (M.fits t ⟨kind, shard, node, rev⟩) ∧ Hid (SteppedR wc wx g10 nz s A10 c10 (M.apply t ⟨kind, shard, node, rev⟩)))
          case first =>
            go_region_law (first
              | (refine step_call (by rfl) 18 #[.agg #[.int .i64 nz, .slice A s cap], .agg #[.int .u8 (kind : Int), .int .i64 shard, .int .i64 node, .int .u64 (rev : Int)]] (by simp [Act.eval, go_sem]) (fun v => v) (AppR t nz s ⟨kind, shard, node, rev⟩ wc.heap.size _) (HAP.out (wc.alloc (.cells #[.int .i64 0, .slice none 0 0] 24)).drew HDA.out) ?_; rintro v6 w6 ⟨A6, c6, rfl, ho6, hb6⟩
                 have hz6 := (hb6.block wc.heap.size (heapLt HZD.out)).trans HZD.out
                 have z60 : w6.cell? ⟨wc.heap.size, 0, none⟩ = some (.int .i64 0) := cellAt 0 hz6
                 have z61 : w6.cell? ⟨wc.heap.size, 1, none⟩ = some (.slice none 0 0) := cellAt 1 hz6
                 have zf0 : w6.frozen? ⟨wc.heap.size, 0, none⟩ = false := freeAt 0 hz6
                 have zf1 : w6.frozen? ⟨wc.heap.size, 1, none⟩ = false := freeAt 1 hz6
                 have HO6 := Lib.hid ho6; have HB6 := Lib.hid hb6; have HZ6 := Lib.hid hz6
                 clear ho6 hb6 hz6)
              | (refine step_call (by rfl) 18 #[.agg #[.int .i64 nz, .slice A s cap], .agg #[.int .u8 (kind : Int), .int .i64 shard, .int .i64 node, .int .u64 (rev : Int)]] (by simp [Act.eval, go_sem]) (fun v => v) (AppR t nz s ⟨kind, shard, node, rev⟩ wc.heap.size _) (HAP.out wc.drew HDR.out) ?_; rintro v6 w6 ⟨A6, c6, rfl, ho6, hb6⟩
                 have HO6 := Lib.hid ho6; have HB6 := Lib.hid hb6
                 clear ho6 hb6))
            all_goals
              go_wp2_with fail
              go_meet
            all_goals first
              | exact ⟨_, A6, c6, rfl, rfl, Lib.hid (steppedR_set HZ6.out HO6.out HB6.out)⟩
              | exact ⟨_, A6, c6, rfl, rfl, Lib.hid (steppedR_new HO6.out HB6.out)⟩
          case rest =>
            obtain ⟨g10, A10, c10, rfl, rfl, HS10⟩ := hcut
            rename World => wd
            have HB5D := Lib.hid (HS8.out.below.trans (HS10.out.below.mono HS8.out.below.size))
            have HBWD := Lib.hid (HBWC.out.trans (HS10.out.below.mono HBWC.out.size))
            obtain ⟨u, hu⟩ : ∃ u, u = M.apply t ⟨kind, shard, node, rev⟩ := ⟨_, rfl⟩
            have hul : u.rows.length = s := by rw [hu, apply_len]; exact HLEN.out.symm
            have hun : u.nodes = nz := by rw [hu, apply_nodes]; exact HU.out.nodes
            have huf : FitT u := by rw [hu]; exact apply_fit HU.out.fit
            have hus : xs8.map X.r = u.rows := by rw [HS8.out.same, hu]
            have HO8 := Lib.hid (show OwnXs wd w5.heap.size (.slice A8 s c8) xs8 from HS8.out.own.below HS10.out.below)
            have HTU8 := Lib.hid (own_tab HO8.out hus huf hul)
            have HTU10 := Lib.hid (show TabIs wd wd.heap.size A10 s c10 u by rw [hu]; exact HS10.out.tab)
            have HOD7 := Lib.hid (HO7.out.below HB5D.out)
            have HT7 := Lib.hid (own_tab HOD7.out HE7.out HU.out.fit HLEN.out.symm)
            have HTT := Lib.hid (HTC.out.on HS10.out.below)
            have hxg := (HS10.out.below.block g hgc).trans HBGC.out
            have hx7 := (HB5D.out.block h7 (heapLt HX7.out)).trans HX7.out
            have hx8 := (HS10.out.below.block g8 (heapLt HS8.out.box)).trans HS8.out.box
            have hx10 := HS10.out.box
            have HXG := Lib.hid hxg; have HX7D := Lib.hid hx7; have HX8 := Lib.hid hx8
            have HSA := Lib.hid (show Calls Try.prog 12 #[.agg #[.int .i64 nz, .slice A8 s c8], .agg #[.int .i64 nz, .slice A10 s c10]] wd (SaysB true wd) by
              have h1 := same_any _ _ u u wd (HTU8.out.rdt (by rw [hun]; exact HI64.out)) (HTU10.out.rdt (by rw [hun]; exact HI64.out))
              rw [hun, decide_eq_true rfl] at h1
              exact h1)
            have HSB := Lib.hid (show ∀ W, Below wd.heap.size wd W → Calls Try.prog 12 #[.agg #[.int .i64 nz, .slice A s cap], .agg #[.int .i64 nz, .slice A7 s c7]] W (SaysB true W) from fun W hW => by
              have h1 := same_any _ _ t t W ((HTT.out.on hW).rdt (by rw [HU.out.nodes]; exact HI64.out)) ((HT7.out.on hW).rdt (by rw [HU.out.nodes]; exact HI64.out))
              rw [HU.out.nodes, decide_eq_true rfl] at h1
              exact h1)
            have HUL := Lib.hid hul; have HUN := Lib.hid hun; have HUF := Lib.hid huf; have HUS := Lib.hid hus
            clear k0 k1 l0 l1 l2 l3 HAP HZD HDR HDA hul hun huf hus HTC
            have v0 : wd.cell? ⟨g8, 0, none⟩ = some (.int .i64 nz) := cellAt 0 hx8
            have v1 : wd.cell? ⟨g8, 1, none⟩ = some (.slice A8 s c8) := cellAt 1 hx8
            have u0 : wd.cell? ⟨g10, 0, none⟩ = some (.int .i64 nz) := cellAt 0 hx10
            have u1 : wd.cell? ⟨g10, 1, none⟩ = some (.slice A10 s c10) := cellAt 1 hx10
            clear hxg hx7 hx8 hx10 hu
            generalize M.fits t ⟨kind, shard, node, rev⟩ = q at *
            have hqq : (q != q) = false := by simp
            go_wp2_with fail
            refine HSA.out.mono ?_
            rintro e we ⟨rfl, hbe⟩
            have HBE := Lib.hid hbe
            have hxg := (hbe.block g (heapLt HXG.out)).trans HXG.out
            have hx7 := (hbe.block h7 (heapLt HX7D.out)).trans HX7D.out
            clear v0 v1 u0 u1 hbe
            have v0 : we.cell? ⟨g, 0, none⟩ = some (.int .i64 nz) := cellAt 0 hxg
            have v1 : we.cell? ⟨g, 1, none⟩ = some (.slice A s cap) := cellAt 1 hxg
            have u0 : we.cell? ⟨h7, 0, none⟩ = some (.int .i64 nz) := cellAt 0 hx7
            have u1 : we.cell? ⟨h7, 1, none⟩ = some (.slice A7 s c7) := cellAt 1 hx7
            clear hxg hx7
            go_wp2_with fail
            refine (HSB.out we HBE.out).mono ?_
            rintro e wf ⟨rfl, hbf⟩
            have HDF := Lib.hid (HBE.out.trans (hbf.mono HBE.out.size))
            clear v0 v1 u0 u1 hbf HSA HSB
            have HXGF := Lib.hid ((HDF.out.block g (heapLt HXG.out)).trans HXG.out)
            have HX7F := Lib.hid ((HDF.out.block h7 (heapLt HX7D.out)).trans HX7D.out)
            have HX8F := Lib.hid ((HDF.out.block g8 (heapLt HX8.out)).trans HX8.out)
            have HOF7 := Lib.hid (HOD7.out.below HDF.out)
            have HOF8 := Lib.hid (HO8.out.below HDF.out)
            have HRF7 := Lib.hid (own_rdx HOF7.out HE7.out HU.out.fit)
            have HBWF := Lib.hid (HBWD.out.trans (HDF.out.mono HBWD.out.size))
            have HFLT := Lib.hid (show ∀ q, (∃ x ∈ xs7, x.sl.ownBlock = some q) → q < w5.heap.size from fun q ⟨x, hx, e⟩ => ((HO7.out.sl x hx).lt q e).2)
            have HFLO := Lib.hid (show ∀ q, (∃ x ∈ xs7, x.sl.ownBlock = some q) → w.heap.size ≤ q from fun q ⟨x, hx, e⟩ => Nat.le_trans HU.out.below.size ((HO7.out.sl x hx).lt q e).1)
            have HWS := Lib.hid (Wiped.start HOF7.out)
            have hs9 : s ≤ 9223372036854775807 := by omega
            go_wp2_with fail
            go_loopw [12] (fun p wz => ∃ k : Nat, p = .int .i64 (k : Int) ∧ k ≤ s ∧ Hid (Wiped wf wz xs7)) (fun p _ => s - (intOf p).toNat)
            case atStart => exact ⟨0, rfl, Nat.zero_le _, HWS⟩
            case round =>
              clear HWS
              obtain ⟨k, rfl, hk, HW⟩ := hrel
              rename World => wz
              have hn7 := not_wiped HOF7.out HX7F.out (by decide)
              have m1 : wz.cell? ⟨h7, 1, none⟩ = some (.slice A7 s c7) := (HW.out.turned.cell (p := ⟨h7, 1, none⟩) (heapLt HX7F.out) hn7).trans (cellAt 1 HX7F.out)
              by_cases hks : k < s
              · obtain ⟨b7, cur7, rfl, hh7⟩ := own_block HOF7.out (by omega) HL7.out
                have hnb := not_wiped HOF7.out hh7 (by decide)
                have hbl7 := heapLt hh7
                obtain ⟨bx, ox, ex, -, hcx⟩ := HRF7.out.cells (by omega)
                injection ex with ex; injection ex with exa exb; subst exa exb
                have hkx : k < xs7.length := by have := HL7.out; omega
                have hat := hcx k hkx
                have HMEM := Lib.hid (List.getElem_mem hkx)
                have hlx := (HRF7.out.rows _ HMEM.out).light
                obtain ⟨x7, hx7⟩ : ∃ x7, x7 = xs7[k] := ⟨_, rfl⟩
                rw [← hx7] at hat HMEM hlx
                have m3 := hat.2.2.2
                have HM3 := Lib.hid (show ∀ W, Wiped wf W xs7 → W.cell? ⟨b7, 0 + k * 4 + 3, none⟩ = some (.slice x7.a x7.n x7.c) ∧ W.cell? ⟨h7, 1, none⟩ = some (.slice (some ⟨b7, 0, none⟩) s c7) from fun W hW => ⟨(hW.turned.cell (p := ⟨b7, 0 + k * 4 + 3, none⟩) hbl7 hnb).trans m3, (hW.turned.cell (p := ⟨h7, 1, none⟩) (heapLt HX7F.out) hn7).trans (cellAt 1 HX7F.out)⟩)
                have hkI : (k : Int) < (s : Int) := by omega
                clear hat hcx hx7 m3 hnb hn7 hh7
                go_wp2
                clear m1
                go_loopw [13] (fun p wy => ∃ j : Nat, p = .int .i64 (j : Int) ∧ j ≤ x7.n ∧ Hid (Wiped wf wy xs7)) (fun p _ => x7.n - (intOf p).toNat)
                case atStart => exact ⟨0, rfl, Nat.zero_le _, HW⟩
                case round =>
                  clear HW
                  obtain ⟨j, rfl, hj, HWJ⟩ := hrel
                  rename World => wy
                  obtain ⟨m3, m1⟩ := HM3.out wy HWJ.out
                  rw [Nat.zero_add] at m3
                  by_cases hjn : j < x7.n
                  · obtain ⟨gx, hax, ⟨z, hz⟩, hfz, hnext⟩ := HWJ.out.at_ HMEM.out hjn
                    have HNX := Lib.hid hnext
                    rw [hax] at m3
                    obtain ⟨m, hm⟩ : ∃ m, m = x7.n := ⟨_, rfl⟩
                    rw [← hm] at m3 hjn hj hlx ⊢
                    have hjI : (j : Int) < (m : Int) := by omega
                    clear hnext hax hm
                    go_wp2
                    exact ⟨⟨j + 1, by go_num, by omega, HNX⟩, by simp [intOf]; omega⟩
                  · obtain ⟨m, hm⟩ : ∃ m, m = x7.n := ⟨_, rfl⟩
                    rw [← hm] at m3 hjn hj hlx ⊢
                    obtain rfl : j = m := by omega
                    clear hm
                    go_wp2
                    exact ⟨⟨k + 1, by go_num, by omega, HWJ⟩, by simp [intOf]; omega⟩
              · have hng := not_wiped HOF7.out HXGF.out (by decide)
                have hn8 := not_wiped HOF7.out HX8F.out (by decide)
                have hxg := (HW.out.turned.block g (heapLt HXGF.out) hng).trans HXGF.out
                have hx8 := (HW.out.turned.block g8 (heapLt HX8F.out) hn8).trans HX8F.out
                have v0 : wz.cell? ⟨g8, 0, none⟩ = some (.int .i64 nz) := cellAt 0 hx8
                have v1 : wz.cell? ⟨g8, 1, none⟩ = some (.slice A8 s c8) := cellAt 1 hx8
                have u0 : wz.cell? ⟨g, 0, none⟩ = some (.int .i64 nz) := cellAt 0 hxg
                have u1 : wz.cell? ⟨g, 1, none⟩ = some (.slice A s cap) := cellAt 1 hxg
                have f0 := freeAt 0 hxg
                have f1 := freeAt 1 hxg
                have ho8 : OwnXs wz w5.heap.size (.slice A8 s c8) xs8 := HOF8.out.turned HW.out.turned (fun q hq e => by have h1 := HFLT.out q e; have h2 := (World.ownsRow.lt HOF8.out.row q hq).1; omega) (fun x hx q hq e => by have h1 := HFLT.out q e; have h2 := ((HOF8.out.sl x hx).lt q hq).1; omega)
                have hbz : Below w.heap.size w wz := HBWF.out.trans (HW.out.turned.below HBWF.out.size (fun q hq => HFLO.out q hq))
                have HNX := Lib.hid (UBox.next ho8 HUS.out HUF.out HUL.out HUN.out hxg HU.out.low hbz)
                clear hng hn8 hxg hx8 ho8 hbz hn7
                go_wp2
                exact ⟨⟨i + 1, A8, c8, u, by go_num, by omega, by omega, HNX⟩, by simp [intOf]; omega⟩
      · have HBF := Lib.hid HU.out.below
        go_wp2
        go_ret
        exact ⟨rfl, HBF.out⟩
    · have HBF := Lib.hid HU.out.below
      go_wp2
      go_ret
      exact ⟨rfl, HBF.out⟩
end Go.Proofs.Ytghnelfgnfhclaa
