/-
  The law MetaStays, its walk.
-/
import Derived.Test.YtghnelfgnfhclaaMetaM
import Derived.Deep.DeepCutAuto
import Derived.Deep.CutBlock
namespace Go.Proofs.Ytghnelfgnfhclaa
open Go.RowKit Mem Go.ChangeShapes
set_option linter.unusedVariables false
set_option maxRecDepth 100000

/-- behind some commands: the table in its box -/
structure Staying (w0 wr : World) (g n s : Nat) (A : Option Addr) (cap : Nat) (t : M.T) (xs : List X) : Prop where
  box : wr.heap[g]? = some (.cells #[.int .i64 (n : Int), .slice A s cap] 24 (0, 0))
  own : OwnXs wr w0.heap.size (.slice A s cap) xs
  same : xs.map X.r = t.rows
  nodes : t.nodes = (n : Int)
  len : t.rows.length = s
  form : M.form t = true
  fit : FitT t
  low : w0.heap.size ≤ g
  below : Below w0.heap.size w0 wr
theorem Staying.tab {w0 wr : World} {g n s cap : Nat} {A : Option Addr} {t : M.T} {xs : List X} (h : Staying w0 wr g n s A cap t xs) : TabIs wr wr.heap.size A s cap t := by
  obtain ⟨A', c', e, ht⟩ := tab_of_own h.own h.same h.fit
  injection e with e1 e2 e3
  subst e1 e3
  rw [h.len] at ht
  exact ht
def AppOwn (t : M.T) (n : Int) (s : Nat) (c : M.C) (w : World) (v : Value) (w' : World) : Prop :=
  ∃ A' c' xs, v = .tuple #[.agg #[.int .i64 n, .slice A' s c'], .bool (M.fits t c)] ∧ OwnXs w' w.heap.size (.slice A' s c') xs ∧ xs.map X.r = (M.apply t c).rows ∧ Below w.heap.size w w'
theorem appOwn_any (A : Option Addr) (s cap : Nat) (t : M.T) (c : M.C) (n : Int) (w : World) (h : TabIs w w.heap.size A s cap t) (hn : t.nodes = n) (hi : I64 n) (hl : t.rows.length = s) (hc : CmdOk c) :
    Calls Try.prog 17 #[.agg #[.int .i64 n, .slice A s cap], cval c] w fun e w' => ∃ v, e = .returned v ∧ AppOwn t n s c w v w' := by
  subst hn
  refine (apply_any _ t c w (h.rdt hi) hc).mono ?_
  rintro e w' ⟨v', xs, rfl, ho, he, hb⟩
  obtain ⟨A', c', e1, hc1, hm1⟩ := row_form ho.row
  have hl2 : xs.length = s := by have := congrArg List.length he; rw [List.length_map, apply_len, hl] at this; exact this
  rw [hl2] at e1
  subst e1
  exact ⟨_, rfl, A', c', xs, rfl, ho, he, hb⟩

/-- behind a command: the other table in its box -/
structure Stepped (wr wx : World) (g3 : Nat) (n : Int) (s : Nat) (A3 : Option Addr) (c3 : Nat) (t : M.T) (c : M.C) (xs : List X) : Prop where
  box : wx.heap[g3]? = some (.cells #[.int .i64 n, .slice A3 s c3] 24 (0, 0))
  own : OwnXs wx wr.heap.size (.slice A3 s c3) xs
  same : xs.map X.r = (M.apply t c).rows
  low : wr.heap.size ≤ g3
  below : Below wr.heap.size wr wx
theorem stepped_set {wr w3 : World} {n : Int} {s : Nat} {A3 : Option Addr} {c3 : Nat} {t : M.T} {c : M.C} {xs : List X}
    (hz : w3.heap[wr.heap.size]? = some (.cells #[.int .i64 0, .slice none 0 0] 24 (0, 0))) (ho : OwnXs w3 (wr.alloc (.cells #[.int .i64 0, .slice none 0 0] 24)).drew.heap.size (.slice A3 s c3) xs) (he : xs.map X.r = (M.apply t c).rows)
    (hb : Below (wr.alloc (.cells #[.int .i64 0, .slice none 0 0] 24)).drew.heap.size (wr.alloc (.cells #[.int .i64 0, .slice none 0 0] 24)).drew w3) :
    Stepped wr ((w3.setCell ⟨wr.heap.size, 0, none⟩ (.int .i64 n)).setCell ⟨wr.heap.size, 1, none⟩ (.slice A3 s c3)) wr.heap.size n s A3 c3 t c xs := by
  have hs : (wr.alloc (.cells #[.int .i64 0, .slice none 0 0] 24)).drew.heap.size = wr.heap.size + 1 := by show (wr.alloc _).heap.size = _; simp
  have hT : Turned (· = wr.heap.size) w3 ((w3.setCell ⟨wr.heap.size, 0, none⟩ (.int .i64 n)).setCell ⟨wr.heap.size, 1, none⟩ (.slice A3 s c3)) :=
    Turned.setCell (F := (· = wr.heap.size)) (Turned.setCell (F := (· = wr.heap.size)) (Turned.refl _ w3) (p := ⟨wr.heap.size, 0, none⟩) (.inl rfl) _) (p := ⟨wr.heap.size, 1, none⟩) (.inl rfl) _
  have hb0 : Below wr.heap.size wr w3 := by
    have h := bel_alloc' wr (.cells #[.int .i64 0, .slice none 0 0] 24)
    have h2 : Below wr.heap.size wr (wr.alloc (.cells #[.int .i64 0, .slice none 0 0] 24)).drew := ⟨h.os, h.tape, h.output, h.size, h.block⟩
    exact h2.trans (hb.mono (by omega))
  refine ⟨heapSet 1 _ (heapSet 0 _ hz), (ho.turned hT (fun q hq e => block_ne ho.row hz (by decide) (by rw [hq, e])) (fun x hx q hq e => block_ne (ho.sl x hx) hz (by decide) (by rw [hq, e]))).less (by omega), he, Nat.le_refl _, ?_⟩
  exact (hb0.setCell (p := ⟨wr.heap.size, 0, none⟩) (Nat.le_refl _) _).setCell (p := ⟨wr.heap.size, 1, none⟩) (Nat.le_refl _) _
theorem stepped_new {wr w3 : World} {n : Int} {s : Nat} {A3 : Option Addr} {c3 : Nat} {t : M.T} {c : M.C} {xs : List X}
    (ho : OwnXs w3 wr.drew.heap.size (.slice A3 s c3) xs) (he : xs.map X.r = (M.apply t c).rows) (hb : Below wr.drew.heap.size wr.drew w3) :
    Stepped wr (w3.alloc (.cells #[.int .i64 n, .slice A3 s c3] 24)) w3.heap.size n s A3 c3 t c xs := by
  have hb0 : Below wr.heap.size wr w3 := ⟨hb.os, hb.tape, hb.output, hb.size, hb.block⟩
  exact ⟨heapNew (w := w3) _, ho.below (bel_alloc' w3 _), he, hb0.size, hb0.trans ((bel_alloc' w3 _).mono hb0.size)⟩

set_option maxHeartbeats 8000000 in
theorem metaStays_any (a b d : Nat) (ha : a < 256) (hb : b < 256) (hd : d < 256) (Al : Option Addr) (nl cl : Nat) (l : List M.C) (w : World) (hl : RdCs w w.heap.size Al nl cl l) : Calls Try.prog 5 #[.int .u8 (a : Int), .int .u8 (b : Int), .int .u8 (d : Int), .slice Al nl cl] w (SaysB true w) := by
  obtain ⟨n, hn⟩ : ∃ n, n = 1 + a % 5 := ⟨_, rfl⟩
  obtain ⟨s, hs⟩ : ∃ s, s = 1 + b % 8 := ⟨_, rfl⟩
  obtain ⟨k, hk⟩ : ∃ k, k = 1 + d % n := ⟨_, rfl⟩
  have hkn : k ≤ n := by have := Nat.mod_lt d (show 0 < n by omega); omega
  have HNI := Lib.hid (show (1 + (a : Int) % 5) = (n : Int) by omega)
  have HSI := Lib.hid (show (1 + (b : Int) % 8) = (s : Int) by omega)
  have HKI := Lib.hid (show ((1 : Int) + (d : Int) % (n : Int)) = (k : Int) by rw [hk, Int.natCast_add, Int.natCast_emod]; rfl)
  have hn5 : n ≤ 5 := by omega
  have hn1 : 1 ≤ n := by omega
  have hs1 : 1 ≤ s := by omega
  have hs8 : s ≤ 8 := by omega
  have hk1 : 1 ≤ k := by omega
  have HLC := Lib.hid hl
  have hnl1 := hl.2.1; have hnl2 := hl.2.2.1
  have HNL := Lib.hid hl.1
  have C0 := Lib.hid (fun W => new_ok n s k hn1 hn5 hs1 hs8 hk1 hkn W)
  have HA := Lib.hid (awake14_any w)
  have HN64 := Lib.hid (show I64 (n : Int) by unfold I64; omega)
  clear hn hs hk hl
  go_enter Try.func5, Try.ntmps5
  go_wp2_with fail
  refine HA.out.mono ?_
  rintro e w1 ⟨rfl, hb1⟩
  have HB1 := Lib.hid hb1
  have hni := HNI.out
  have hsi := HSI.out
  have hki := HKI.out
  have hn0 : ¬ (n : Int) = 0 := by omega
  clear hb1
  go_wp2_with fail
  refine (C0.out w1).mono ?_
  rintro e w2 ⟨v0, xs0, rfl, ho0, he0, hb2⟩
  have hrl : (M.new n s k).rows.length = s := by simp [M.new]
  have hx0l : xs0.length = s := by have := congrArg List.length he0; rw [List.length_map, hrl] at this; exact this
  obtain ⟨A0, c0, e1, hc1, hm1⟩ := row_form ho0.row
  rw [hx0l] at e1 hc1
  subst e1
  have hw2 := bel_alloc' w2 (.cells #[.int .i64 (n : Int), .slice A0 s c0] 24)
  have HST := Lib.hid (show Staying w (w2.alloc (.cells #[.int .i64 (n : Int), .slice A0 s c0] 24)) w2.heap.size n s A0 c0 (M.new n s k) xs0 from
    ⟨heapNew (w := w2) _, (ho0.below hw2).less HB1.out.size, he0, rfl, hrl, M.new_form n s k hn1 hn5 hs1 hs8 hk1 hkn, new_fit hn5 hs8 hn1, by have := HB1.out.size; have := hb2.size; omega, bel_on (bel_on HB1.out hb2) hw2⟩)
  obtain ⟨g, hg⟩ : ∃ g, w2.heap.size = g := ⟨_, rfl⟩
  rw [hg] at HST
  clear ho0 he0 hb2 hrl hx0l hw2 hni hsi hki HA C0
  go_wp2
  clear hg
  go_loopw [12] (fun p wr => ∃ (i : Nat) (A : Option Addr) (cap : Nat) (t : M.T) (xs : List X), p = .int .i64 (i : Int) ∧ i ≤ nl ∧ i ≤ 50 ∧ Hid (Staying w wr g n s A cap t xs)) (fun p _ => 50 - (intOf p).toNat)
  case atStart => exact ⟨0, A0, c0, M.new n s k, xs0, rfl, Nat.zero_le _, by omega, HST⟩
  case round =>
    clear HST hc1 hm1
    obtain ⟨i, A, cap, t, xs, rfl, hi, hi50, HST⟩ := hrel
    rename World => wr
    by_cases hlt : i < nl
    · by_cases hlt50 : i < 50
      · have hst := HST.out
        have hil : i < l.length := by have := HNL.out; omega
        obtain ⟨bl, ol, rfl, hbl, hcl⟩ := HLC.out.2.2.2.2 (by omega)
        have hok := HLC.out.2.2.2.1 l[i] (List.getElem_mem hil)
        have hci := hcl i hil
        obtain ⟨x, hx⟩ : ∃ x, l[i] = x := ⟨_, rfl⟩
        rw [hx] at hci hok
        have hsw : w.heap.size ≤ wr.heap.size := hst.below.size
        have HLW := Lib.hid (show ∀ W, Below wr.heap.size wr W → (W.cell? ⟨bl, ol + i * 4, none⟩ = some (.int .u8 (x.kind : Int)) ∧ W.cell? ⟨bl, ol + i * 4 + 1, none⟩ = some (.int .i64 x.shard) ∧ W.cell? ⟨bl, ol + i * 4 + 2, none⟩ = some (.int .i64 x.node) ∧ W.cell? ⟨bl, ol + i * 4 + 3, none⟩ = some (.int .u64 (x.rev : Int))) from fun W hW => by
          have h1 := hst.below.trans (hW.mono hsw)
          exact ⟨(h1.cell (p := ⟨bl, ol + i * 4, none⟩) hbl).trans hci.1, (h1.cell (p := ⟨bl, ol + i * 4 + 1, none⟩) hbl).trans hci.2.1, (h1.cell (p := ⟨bl, ol + i * 4 + 2, none⟩) hbl).trans hci.2.2.1, (h1.cell (p := ⟨bl, ol + i * 4 + 3, none⟩) hbl).trans hci.2.2.2⟩)
        have hdr : Below wr.heap.size wr wr.drew := ⟨rfl, rfl, rfl, Nat.le_refl _, fun _ _ => rfl⟩
        have hda : Below wr.heap.size wr (wr.alloc (.cells #[.int .i64 0, .slice none 0 0] 24)).drew := by
          have h := bel_alloc' wr (.cells #[.int .i64 0, .slice none 0 0] 24)
          exact ⟨h.os, h.tape, h.output, h.size, h.block⟩
        have HAP := Lib.hid (show ∀ W, Below wr.heap.size wr W → Calls Try.prog 17 #[.agg #[.int .i64 (n : Int), .slice A s cap], cval x] W fun e w' => ∃ v, e = .returned v ∧ AppOwn t (n : Int) s x W v w' from fun W hW => appOwn_any A s cap t x (n : Int) W (HST.out.tab.on hW) HST.out.nodes HN64.out HST.out.len hok)
        have HZD := Lib.hid (show (wr.alloc (.cells #[.int .i64 0, .slice none 0 0] 24)).drew.heap[wr.heap.size]? = some (.cells #[.int .i64 0, .slice none 0 0] 24 (0, 0)) from heapNew (w := wr) _)
        have HDR := Lib.hid hdr; have HDA := Lib.hid hda
        have HOK := Lib.hid hok
        have k0 : wr.cell? ⟨g, 0, none⟩ = some (.int .i64 (n : Int)) := cellAt 0 hst.box
        have k1 : wr.cell? ⟨g, 1, none⟩ = some (.slice A s cap) := cellAt 1 hst.box
        obtain ⟨l0, l1, l2, l3⟩ := HLW.out wr (Below.refl _ _)
        have hgl : g < wr.heap.size := heapLt hst.box
        have hbl2 : bl < wr.heap.size := by omega
        have hinl : (i : Int) < (nl : Int) := by omega
        clear hst hcl hci hok hx hdr hda hil
        obtain ⟨kind, shard, node, rev⟩ := x
        unfold cval at HAP
        simp only at l0 l1 l2 l3 HAP
        go_upto_region 10 with (fail)
        go_cut [13, 14] (fun s13 s14 wx => ∃ (g3 : Nat) (A3 : Option Addr) (c3 : Nat) (xs3 : List X), s13 = .pointer (some ⟨g3, 0, none⟩) ∧ s14 = .bool (M.fits t ⟨kind, shard, node, rev⟩) ∧ Hid (Stepped wr wx g3 (n : Int) s A3 c3 t ⟨kind, shard, node, rev⟩ xs3))
        case first =>
          go_region_law (first
            | (refine step_call (by rfl) 17 #[.agg #[.int .i64 (n : Int), .slice A s cap], .agg #[.int .u8 (kind : Int), .int .i64 shard, .int .i64 node, .int .u64 (rev : Int)]] (by simp [Act.eval, go_sem]) (fun v => v) (AppOwn t (n : Int) s ⟨kind, shard, node, rev⟩ _) (HAP.out (wr.alloc (.cells #[.int .i64 0, .slice none 0 0] 24)).drew HDA.out) ?_; rintro v3 w3 ⟨A3, c3, xs3, rfl, ho3, he3, hb3⟩
               have hz3 := (hb3.block wr.heap.size (heapLt HZD.out)).trans HZD.out
               have z30 : w3.cell? ⟨wr.heap.size, 0, none⟩ = some (.int .i64 0) := cellAt 0 hz3
               have z31 : w3.cell? ⟨wr.heap.size, 1, none⟩ = some (.slice none 0 0) := cellAt 1 hz3
               have zf0 : w3.frozen? ⟨wr.heap.size, 0, none⟩ = false := freeAt 0 hz3
               have zf1 : w3.frozen? ⟨wr.heap.size, 1, none⟩ = false := freeAt 1 hz3
               have HO3 := Lib.hid ho3; have HE3 := Lib.hid he3; have HB3 := Lib.hid hb3; have HZ3 := Lib.hid hz3
               clear ho3 he3 hb3 hz3)
            | (refine step_call (by rfl) 17 #[.agg #[.int .i64 (n : Int), .slice A s cap], .agg #[.int .u8 (kind : Int), .int .i64 shard, .int .i64 node, .int .u64 (rev : Int)]] (by simp [Act.eval, go_sem]) (fun v => v) (AppOwn t (n : Int) s ⟨kind, shard, node, rev⟩ _) (HAP.out wr.drew HDR.out) ?_; rintro v3 w3 ⟨A3, c3, xs3, rfl, ho3, he3, hb3⟩
               have HO3 := Lib.hid ho3; have HE3 := Lib.hid he3; have HB3 := Lib.hid hb3
               clear ho3 he3 hb3))
          all_goals
            go_wp2_with fail
            go_meet
          all_goals first
            | exact ⟨_, A3, c3, xs3, rfl, rfl, Lib.hid (stepped_set HZ3.out HO3.out HE3.out HB3.out)⟩
            | exact ⟨_, A3, c3, xs3, rfl, rfl, Lib.hid (stepped_new HO3.out HE3.out HB3.out)⟩
        case rest =>
          obtain ⟨g3, A3, c3, xs3, rfl, rfl, HSP⟩ := hcut
          have hsp := HSP.out
          obtain ⟨u, hu⟩ : ∃ u, u = M.apply t ⟨kind, shard, node, rev⟩ := ⟨_, rfl⟩
          have hul : u.rows.length = s := by rw [hu, apply_len]; exact HST.out.len
          have hun : u.nodes = (n : Int) := by rw [hu, apply_nodes]; exact HST.out.nodes
          have hufit : FitT u := by rw [hu]; exact apply_fit HST.out.fit
          have hut : TabIs wc wc.heap.size A3 s c3 u := by
            obtain ⟨A', c', e, ht⟩ := tab_of_own hsp.own (by rw [hsp.same, hu]) hufit
            injection e with e1 e2 e3
            subst e1 e3
            rw [hul] at ht
            exact ht
          have HUT := Lib.hid hut
          have HTT := Lib.hid (show TabIs wc wc.heap.size A s cap t from HST.out.tab.on hsp.below)
          have HF := Lib.hid (show Calls Try.prog 14 #[.agg #[.int .i64 (n : Int), .slice A3 s c3]] wc (SaysB true wc) by
            have h1 := form_any _ u wc (hut.rdt (by rw [hun]; exact HN64.out))
            rw [hun, show M.form u = true by rw [hu]; exact apply_form HST.out.form] at h1
            exact h1)
          have HBX := Lib.hid (show ∀ W, Below wc.heap.size wc W → (W.cell? ⟨g3, 0, none⟩ = some (.int .i64 (n : Int)) ∧ W.cell? ⟨g3, 1, none⟩ = some (.slice A3 s c3)) ∧ (W.cell? ⟨g, 0, none⟩ = some (.int .i64 (n : Int)) ∧ W.cell? ⟨g, 1, none⟩ = some (.slice A s cap)) from fun W hW => by
            have h3 := (hW.block g3 (heapLt hsp.box)).trans hsp.box
            have h4 := (hsp.below.block g hgl).trans HST.out.box
            have h5 := (hW.block g (heapLt h4)).trans h4
            exact ⟨⟨cellAt 0 h3, cellAt 1 h3⟩, cellAt 0 h5, cellAt 1 h5⟩)
          have HU := Lib.hid hu; have HUL := Lib.hid hul; have HUN := Lib.hid hun; have HUF := Lib.hid hufit
          obtain ⟨⟨y0, y1⟩, y2, y3⟩ := HBX.out wc (Below.refl _ _)
          have hgg3 : g < wr.heap.size ∧ wr.heap.size ≤ g3 := ⟨hgl, hsp.low⟩
          clear hsp hul hun hufit hut hu k0 k1 l0 l1 l2 l3 HAP HZD HDR HDA
          go_wp2_with fail
          refine HF.out.mono ?_
          rintro e w5 ⟨rfl, hb5⟩
          obtain ⟨⟨y0, y1⟩, y2, y3⟩ := HBX.out w5 hb5
          have HB5 := Lib.hid hb5
          clear hb5
          go_wp2
          go_loopw [15, 16] (fun q p w' => ∃ j m : Nat, p = .int .i64 (j : Int) ∧ q = .int .i64 (m : Int) ∧ j ≤ s ∧ m ≤ j ∧ Hid (m = M.diffs t u j) ∧ Hid (Below wc.heap.size wc w')) (fun _ p _ => s - (intOf p).toNat)
          case atStart => exact ⟨0, 0, rfl, rfl, Nat.zero_le _, Nat.le_refl _, Lib.hid rfl, HB5⟩
          case round =>
            clear y0 y1 y2 y3
            obtain ⟨j, m, rfl, rfl, hj, hmj, HM, HBJ⟩ := hrel
            rename World => wj
            obtain ⟨⟨y0, y1⟩, y2, y3⟩ := HBX.out wj HBJ.out
            by_cases hjs : j < s
            · obtain ⟨b1, o1, x1, rfl, hb1l, hat1, -, hx1⟩ := (HUT.out.on HBJ.out).row hjs
              obtain ⟨b2, o2, x2, rfl, hb2l, hat2, -, hx2⟩ := (HTT.out.on HBJ.out).row hjs
              have hgr := apply_grows (c := ⟨kind, shard, node, rev⟩) hx2 (by rw [← HU.out]; exact hx1)
              have hdf : M.diffs t u (j + 1) = m + (if x2.r.rev = x1.r.rev then 0 else 1) := by
                rw [M.diffs, ← HM.out, hx1, hx2]
                simp
              obtain ⟨z0, z1, -, -⟩ := hat1
              obtain ⟨v0, v1, -, -⟩ := hat2
              generalize x1.r.rev = r1 at *
              generalize x2.r.rev = r2 at *
              generalize x1.r.term = t1 at *
              generalize x2.r.term = t2 at *
              have g1 : decide ((r1 : Int) < (r2 : Int)) = false := by simp; omega
              have g2 : decide ((t1 : Int) < (t2 : Int)) = false := by simp; omega
              have g1n : decide (r1 < r2) = false := by simp; omega
              have g2n : decide (t1 < t2) = false := by simp; omega
              have hjn : (j : Int) < (s : Int) := by omega
              have HDF := Lib.hid hdf
              have hc3 := (HUT.out.bounds).1
              have hca := (HTT.out.bounds).1
              clear hgr hdf hx1 hx2
              go_wp2_with fail
              go_quiet (fail)
              have HBQ := Lib.hid (fun q => (show Below wc.heap.size wc (wj.drewN q) from ⟨HBJ.out.os, HBJ.out.tape, HBJ.out.output, HBJ.out.size, HBJ.out.block⟩))
              by_cases hrr : r2 = r1
              · have HM2 := Lib.hid (show m = M.diffs t u (j + 1) by rw [HDF.out, if_pos hrr]; omega)
                have e1 : ((r1 : Int) != (r2 : Int)) = false := by simp; omega
                have e2 : (r1 != r2) = false := by simp; omega
                clear hrr HDF g1 g2 g1n g2n
                go_wp2_with fail
                go_quiet (fail)
                go_wp2
                exact ⟨⟨j + 1, m, by go_num, rfl, by omega, by omega, HM2, Lib.hid (HBQ.out _)⟩, by simp [intOf]; omega⟩
              · have HM2 := Lib.hid (show m + 1 = M.diffs t u (j + 1) by rw [HDF.out, if_neg hrr])
                have e1 : ((r1 : Int) != (r2 : Int)) = true := by simp; omega
                have e2 : (r1 != r2) = true := by simp; omega
                clear hrr HDF g1 g2 g1n g2n
                go_wp2_with fail
                go_quiet (fail)
                go_wp2
                exact ⟨⟨j + 1, m + 1, by go_num, by go_num, by omega, by omega, HM2, Lib.hid (HBQ.out _)⟩, by simp [intOf]; omega⟩
            · obtain rfl : j = s := by omega
              have HMF := Lib.hid (show m = if M.fits t ⟨kind, shard, node, rev⟩ = true then 1 else 0 by
                have h1 := diffs_all t ⟨kind, shard, node, rev⟩
                rw [HST.out.len, ← HU.out, ← HM.out] at h1
                exact h1)
              have hsj : wr.heap.size ≤ wj.heap.size := by have := HSP.out.below.size; have := HBJ.out.size; omega
              have HBR := Lib.hid (show Below wr.heap.size wr wj from HSP.out.below.trans (HBJ.out.mono HSP.out.below.size))
              have HAP := Lib.hid (show ∀ W, Below wj.heap.size wj W → Calls Try.prog 17 #[.agg #[.int .i64 (n : Int), .slice A3 j c3], .agg #[.int .u8 (kind : Int), .int .i64 shard, .int .i64 node, .int .u64 (rev : Int)]] W fun e w' => ∃ v, e = .returned v ∧ AppOwn u (n : Int) j ⟨kind, shard, node, rev⟩ W v w' from fun W hW => appOwn_any A3 j c3 u ⟨kind, shard, node, rev⟩ (n : Int) W ((HUT.out.on HBJ.out).on hW) HUN.out HN64.out HUL.out HOK.out)
              have HZD := Lib.hid (show (wj.alloc (.cells #[.int .i64 0, .slice none 0 0] 24)).drew.heap[wj.heap.size]? = some (.cells #[.int .i64 0, .slice none 0 0] 24 (0, 0)) from heapNew (w := wj) _)
              have HDR := Lib.hid (show Below wj.heap.size wj wj.drew from ⟨rfl, rfl, rfl, Nat.le_refl _, fun _ _ => rfl⟩)
              have HDA := Lib.hid (show Below wj.heap.size wj (wj.alloc (.cells #[.int .i64 0, .slice none 0 0] 24)).drew by
                have h := bel_alloc' wj (.cells #[.int .i64 0, .slice none 0 0] 24)
                exact ⟨h.os, h.tape, h.output, h.size, h.block⟩)
              obtain ⟨l0, l1, l2, l3⟩ := HLW.out wj HBR.out
              have hg3l : g3 < wj.heap.size := by
                have h1 := heapLt HSP.out.box
                have := HBJ.out.size
                omega
              have hblj : bl < wj.heap.size := by omega
              have hglj : g < wj.heap.size := by omega
              go_upto_region 21 with (fail)
              go_cut [17, 18] (fun s17 s18 wx => ∃ g7 : Nat, s17 = .pointer (some ⟨g7, 0, none⟩) ∧ s18 = .bool (M.fits u ⟨kind, shard, node, rev⟩) ∧ Hid (Below wj.heap.size wj wx))
              case first =>
                go_region_law (first
                  | (refine step_call (by rfl) 17 #[.agg #[.int .i64 (n : Int), .slice A3 j c3], .agg #[.int .u8 (kind : Int), .int .i64 shard, .int .i64 node, .int .u64 (rev : Int)]] (by simp [Act.eval, go_sem]) (fun v => v) (AppOwn u (n : Int) j ⟨kind, shard, node, rev⟩ _) (HAP.out (wj.alloc (.cells #[.int .i64 0, .slice none 0 0] 24)).drew HDA.out) ?_; rintro v7 w7 ⟨A7, c7, xs7, rfl, ho7, he7, hb7⟩
                     have hz7 := (hb7.block wj.heap.size (heapLt HZD.out)).trans HZD.out
                     have z70 : w7.cell? ⟨wj.heap.size, 0, none⟩ = some (.int .i64 0) := cellAt 0 hz7
                     have z71 : w7.cell? ⟨wj.heap.size, 1, none⟩ = some (.slice none 0 0) := cellAt 1 hz7
                     have zf0 : w7.frozen? ⟨wj.heap.size, 0, none⟩ = false := freeAt 0 hz7
                     have zf1 : w7.frozen? ⟨wj.heap.size, 1, none⟩ = false := freeAt 1 hz7
                     have HO7 := Lib.hid ho7; have HE7 := Lib.hid he7; have HB7 := Lib.hid hb7; have HZ7 := Lib.hid hz7
                     clear ho7 he7 hb7 hz7)
                  | (refine step_call (by rfl) 17 #[.agg #[.int .i64 (n : Int), .slice A3 j c3], .agg #[.int .u8 (kind : Int), .int .i64 shard, .int .i64 node, .int .u64 (rev : Int)]] (by simp [Act.eval, go_sem]) (fun v => v) (AppOwn u (n : Int) j ⟨kind, shard, node, rev⟩ _) (HAP.out wj.drew HDR.out) ?_; rintro v7 w7 ⟨A7, c7, xs7, rfl, ho7, he7, hb7⟩
                     have HO7 := Lib.hid ho7; have HE7 := Lib.hid he7; have HB7 := Lib.hid hb7
                     clear ho7 he7 hb7))
                all_goals
                  go_wp2_with fail
                  go_meet
                all_goals first
                  | exact ⟨_, rfl, rfl, Lib.hid (stepped_set (n := (n : Int)) HZ7.out HO7.out HE7.out HB7.out).below⟩
                  | exact ⟨_, rfl, rfl, Lib.hid (stepped_new (n := (n : Int)) HO7.out HE7.out HB7.out).below⟩
              case rest =>
                obtain ⟨g7, rfl, rfl, HB7⟩ := hcut
                rename World => wx
                have hbx : Below wc.heap.size wc wx := HBJ.out.trans (HB7.out.mono HBJ.out.size)
                have hcx : Below wr.heap.size wr wx := HSP.out.below.trans (hbx.mono HSP.out.below.size)
                have hboxg := (hcx.block g hgl).trans HST.out.box
                have hboxg3 := (hbx.block g3 (heapLt HSP.out.box)).trans HSP.out.box
                have hown := HSP.out.own.below hbx
                have hT : Turned (· = g) wx ((wx.setCell ⟨g, 0, none⟩ (.int .i64 (n : Int))).setCell ⟨g, 1, none⟩ (.slice A3 j c3)) :=
                  Turned.setCell (F := (· = g)) (Turned.setCell (F := (· = g)) (Turned.refl _ wx) (p := ⟨g, 0, none⟩) (.inl rfl) _) (p := ⟨g, 1, none⟩) (.inl rfl) _
                have HNEXT := Lib.hid (show Staying w ((wx.setCell ⟨g, 0, none⟩ (.int .i64 (n : Int))).setCell ⟨g, 1, none⟩ (.slice A3 j c3)) g n j A3 c3 u xs3 from
                  ⟨heapSet 1 _ (heapSet 0 _ hboxg), (hown.turned hT (fun q hq e => block_ne hown.row hboxg (by decide) (by rw [hq, e])) (fun y hy q hq e => block_ne (hown.sl y hy) hboxg (by decide) (by rw [hq, e]))).less hsw,
                    by rw [HSP.out.same, HU.out], HUN.out, HUL.out, by rw [HU.out]; exact apply_form HST.out.form, HUF.out, HST.out.low,
                    ((HST.out.below.trans (hcx.mono hsw)).setCell (p := ⟨g, 0, none⟩) HST.out.low _).setCell (p := ⟨g, 1, none⟩) HST.out.low _⟩)
                obtain ⟨⟨y0, y1⟩, y2, y3⟩ := HBX.out wx hbx
                have yf0 := freeAt 0 hboxg
                have yf1 := freeAt 1 hboxg
                clear hbx hcx hboxg hboxg3 hown hT
                have hmf := HMF.out
                cases hft : M.fits t ⟨kind, shard, node, rev⟩ with
                | true =>
                  have hfu : M.fits u ⟨kind, shard, node, rev⟩ = false := by rw [HU.out]; exact fits_once hft
                  rw [hft, if_pos rfl] at hmf
                  rw [hfu]
                  clear hft hfu HMF HM HU
                  subst hmf
                  go_wp2
                  exact ⟨⟨i + 1, _, _, u, xs3, by go_num, by omega, by omega, HNEXT⟩, by simp [intOf]; omega⟩
                | false =>
                  have hfu : M.fits u ⟨kind, shard, node, rev⟩ = false := by rw [HU.out, apply_no hft]; exact hft
                  rw [hft, if_neg (by simp)] at hmf
                  rw [hfu]
                  clear hft hfu HMF HM HU
                  subst hmf
                  go_wp2
                  exact ⟨⟨i + 1, _, _, u, xs3, by go_num, by omega, by omega, HNEXT⟩, by simp [intOf]; omega⟩
      · have HBF := Lib.hid HST.out.below
        go_wp2
        go_ret
        exact ⟨rfl, HBF.out⟩
    · have HBF := Lib.hid HST.out.below
      go_wp2
      go_ret
      exact ⟨rfl, HBF.out⟩
end Go.Proofs.Ytghnelfgnfhclaa
