/-
  The law WirePlays.
-/
import Derived.Test.YtmhkpdfmjapdnaaWireJ
import Derived.Deep.DeepCutAuto
import Derived.Deep.CutBlock
import Derived.Deep.RegionHeld3
import Derived.Deep.RegionHeld
import Derived.Deep.DrawnRows
namespace Go.Proofs.Ytmhkpdfmjapdnaa
open Go.RowKit Mem
set_option linter.unusedVariables false
set_option maxRecDepth 100000
attribute [local go_sem ↓] Go.wp_at_zero Go.wp_at_succ

/-- the network and the law's own list of packets, side by side -/
def Plays (w : World) (D : Nat) (v : Value) (ls : Xs) (wr : World) : Prop :=
  ∃ F, NetAt wr F D (pks ls) ∧ (∀ k, F k → w.heap.size ≤ k) ∧ Below w.heap.size w wr ∧ LRow wr w.heap.size v ls ∧ (∀ k, v.ownBlock = some k → ¬ F k) ∧ ∀ x ∈ ls, Rd w w.heap.size x.2.1 x.2.2.1 x.2.2.2 x.1.data ∧ x.2.2.2 ≤ 140737488351232
section
variable {w wr w' : World} {D : Nat} {v : Value} {ls : Xs}
theorem Plays.below (h : Plays w D v ls wr) (hb : Below wr.heap.size wr w') : Plays w D v ls w' := by
  obtain ⟨F, h1, h2, h3, h4, h5, h6⟩ := h
  exact ⟨F, h1.below hb, h2, h3.trans (hb.mono h3.size), h4.below hb, h5, h6⟩
theorem Plays.alloc (h : Plays w D v ls wr) (o : Obj) : Plays w D v ls (wr.alloc o) := h.below ((Below.refl _ wr).alloc (Nat.le_refl _) o)
theorem Plays.drew (h : Plays w D v ls wr) : Plays w D v ls wr.drew := by
  obtain ⟨F, h1, h2, h3, h4, h5, h6⟩ := h
  exact ⟨F, h1, h2, ⟨h3.os, h3.tape, h3.output, h3.size, h3.block⟩, h4, h5, h6⟩
end

/-- the list has grown by a packet that the network has got -/
theorem Plays.grow {w w3 w4 : World} {D g cap : Nat} {v : Value} {ls : Xs} {x : Pk × Option Addr × Nat × Nat} {o : Obj} {F : Nat → Prop} (hnet : NetAt w3 F D (pks (ls ++ [x]))) (hF : ∀ k, F k → w.heap.size ≤ k) (hb : Below w.heap.size w w3)
    (hrow : w4.ownsRow w.heap.size 29 3 (.slice (some ⟨g, 0, none⟩) (ls.length + 1) cap) (ls.length + 1) (xcells ls ++ xc x)) (hgrow : (w3.alloc o).grownBy w4 v.ownBlock) (hat : v.ownBlock = some g ∨ g = w3.heap.size + 1)
    (hv : ∀ k, v.ownBlock = some k → w.heap.size ≤ k ∧ ¬ F k) (hls : ∀ x ∈ ls, Rd w w.heap.size x.2.1 x.2.2.1 x.2.2.2 x.1.data ∧ x.2.2.2 ≤ 140737488351232) (hx : Rd w w.heap.size x.2.1 x.2.2.1 x.2.2.2 x.1.data ∧ x.2.2.2 ≤ 140737488351232) :
    Plays w D (.slice (some ⟨g, 0, none⟩) (ls.length + 1) cap) (ls ++ [x]) w4 := by
  have hT : Turned (fun k => v.ownBlock = some k) w3 w4 := ((Turned.refl _ w3).alloc o).grown hgrow (fun k hk => .inl hk)
  refine ⟨F, hnet.far hT (fun k hk hk2 => (hv k hk2).2 hk), hF, hb.trans (hT.below hb.size (fun k hk => (hv k hk).1)), ?_, ?_, ?_⟩
  · unfold LRow
    rw [xcells_app, List.length_append]
    simpa [xcells] using hrow
  · intro k hk hf
    injection hk with hk
    have hk : g = k := hk
    rcases hat with e | e
    · exact (hv g e).2 (hk ▸ hf)
    · have := hnet.foot hf; omega
  · intro y hy
    rcases List.mem_append.1 hy with hy | hy
    · exact hls y hy
    · simp only [List.mem_singleton] at hy; subst hy; exact hx
theorem row_mono {w : World} {b b2 : Nat} {v : Value} {ls : Xs} (h : LRow w b2 v ls) (hb : b ≤ b2) : LRow w b v ls := by
  refine ⟨h.1, ?_⟩
  rcases h.2 with h2 | ⟨g, cap, cur, rfl, hg, r⟩
  · exact .inl h2
  · exact .inr ⟨g, cap, cur, rfl, by omega, r⟩
theorem pks_erase (ls : Xs) (N : Nat) : pks (ls.eraseIdx N) = (pks ls).eraseIdx N := by
  induction ls generalizing N with
  | nil => simp [pks]
  | cons a r ih =>
    cases N with
    | zero => simp [pks]
    | succ j => have := ih j; simp only [pks] at this ⊢; simp [this]
theorem pks_app (ls : Xs) (x : Pk × Option Addr × Nat × Nat) : pks (ls ++ [x]) = pks ls ++ [x.1] := by simp [pks]

set_option maxHeartbeats 8000000 in
theorem wirePlays_any (A : Option Addr) (n c : Nat) (xs : List ActW) (w : World) (h : RdActs w w.heap.size A n c xs) :
    Calls Try.prog 3 #[.slice A n c] w (Yes w) := by
  obtain ⟨i0, hi, hz0, hz1, hz2⟩ := info_parts Try.infoP
  have HI := Lib.hid hi; have HZ0 := Lib.hid hz0; have HZ1 := Lib.hid hz1; have HZ2 := Lib.hid hz2
  clear hi hz0 hz1 hz2
  have NA := Lib.hid h.1; have hc := h.2.1; have hcm := h.2.2.1; have RA := Lib.hid h
  clear h
  go_enter Try.func3, Try.ntmps3
  go_wp2_with fail
  refine (awake_any _).mono ?_
  rintro e w1 ⟨rfl, hb1⟩
  go_wp2_with fail
  refine (new_any w1).mono ?_
  rintro e w2 ⟨D, F, rfl, hd, hF, hb2⟩
  have HP0 := Lib.hid (show Plays w D (.slice none 0 0) [] w2 from ⟨F, hd, fun k hk => Nat.le_trans hb1.size (hF k hk), hb1.trans (hb2.mono hb1.size), World.ownsRow_nil _ _ _ _, by simp [Value.ownBlock], by simp⟩)
  clear hd hF hb1 hb2
  go_wp2_with fail
  go_loopw [4, 5] (fun o p wr => ∃ (i m c2 : Nat) (A2 : Option Addr) (ls : Xs), p = .int .i64 i ∧ o = .slice A2 m c2 ∧ i ≤ n ∧ i ≤ 100 ∧ m ≤ i ∧ Hid (ls.length = m) ∧ Hid (Plays w D (.slice A2 m c2) ls wr)) (fun _ p _ => n - (intOf p).toNat)
  case atStart => exact ⟨0, 0, 0, none, [], rfl, rfl, Nat.zero_le _, by omega, by omega, Lib.hid rfl, HP0⟩
  case round =>
    obtain ⟨i, m, c2, A2, ls, rfl, rfl, hi, hi100, hmi, HM, HP⟩ := hrel
    rename World => wr
    by_cases hlt : i < n ∧ i < 100
    · obtain ⟨hlt, hlt5⟩ := hlt
      have hxi : i < xs.length := by have := NA.out; omega
      obtain ⟨F9, hn9, hF9, hb9, hrow9, hvf9, hls9⟩ := HP.out
      obtain ⟨A3, c3, hv3, hc3, hc3m⟩ := hrow9.form
      injection hv3 with e1 e2 e3
      subst e1 e3
      rw [HM.out] at hc3
      obtain ⟨b, off, rfl, hbl, hcell⟩ := (RA.out.below hb9).2.2.2.2 (by omega)
      have k0 := hcell i hxi 0 (by omega); have k1 := hcell i hxi 1 (by omega); have k2 := hcell i hxi 2 (by omega)
      have k3 := hcell i hxi 3 (by omega); have k4 := hcell i hxi 4 (by omega)
      obtain ⟨hkd, hfit, hrd, hrc, hnum1, hnum2⟩ := RA.out.2.2.2.1 xs[i] (List.getElem_mem hxi)
      have HRD := Lib.hid hrd
      have hbw : b < wr.heap.size := by have := hb9.size; omega
      have hbs : w.heap.size ≤ wr.heap.size := hb9.size
      clear hn9 hF9 hb9 hrow9 hvf9 hls9 hcell hrd e2 hfit
      generalize xs[i] = x at *
      obtain ⟨kd, q, Aq, nq, cq, num⟩ := x
      simp only [ActW.cells] at k0 k1 k2 k3 k4 hkd hrc hnum1 hnum2 HRD
      rw [Nat.add_zero] at k0
      simp only [List.getElem?_cons_zero, List.getElem?_cons_succ] at k0 k1 k2 k3 k4
      have hk0 : (0 : Int) ≤ (kd : Int) := by omega
      have hk1 : (kd : Int) ≤ 255 := by omega
      have HAL := Lib.hid (HP.out.alloc (.cells #[.int .u8 kd, .int .i64 q.src, .int .i64 q.dst, .slice Aq nq cq, .int .i64 num] 31))
      have HTH := Lib.hid (show there num m = (decide (0 ≤ num) && decide (num < (m : Int))) from rfl)
      go_upto_region 9 with (fail)
      go_cut [7] (fun s7 wx => s7 = .bool (there num m) ∧ wx = wr.alloc (.cells #[.int .u8 kd, .int .i64 q.src, .int .i64 q.dst, .slice Aq nq cq, .int .i64 num] 31))
      case first =>
        by_cases h0 : 0 ≤ num
        · by_cases h1 : num < (m : Int)
          · go_wp2
            go_meet
            case rel => exact ⟨by rw [HTH.out]; simp [h0, h1], rfl⟩
          · have hd : decide (num < (m : Int)) = false := by simpa using h1
            go_wp2
            go_meet
            case rel => exact ⟨by rw [HTH.out, hd]; simp, rfl⟩
        · have hd : decide (0 ≤ num) = false := by simpa using h0
          go_wp2
          go_meet
          case rel => exact ⟨by rw [HTH.out, hd]; rfl, rfl⟩
      case rest =>
        obtain ⟨rfl, rfl⟩ := hcut
        cases hth : there num m
        · go_upto_block 2 with (fail)
          go_cut [4] (fun s4 wx => ∃ (m3 c3 : Nat) (A3 : Option Addr) (ls3 : Xs), s4 = .slice A3 m3 c3 ∧ m3 ≤ i + 1 ∧ Hid (ls3.length = m3) ∧ Hid (Plays w D (.slice A3 m3 c3) ls3 wx))
          case first =>
            obtain ⟨F3, hn0, hF3, hb0, hrow0, hvf3, hls3⟩ := HP.out
            have HFT := Lib.hid (show ¬ F3 wr.heap.size from fun hk => absurd (hn0.foot hk) (Nat.lt_irrefl _))
            have HFOOT := Lib.hid (show ∀ k, F3 k → k < wr.heap.size from fun k hk => hn0.foot hk)
            have hn3 := hn0.alloc (.cells #[.int .u8 kd, .int .i64 q.src, .int .i64 q.dst, .slice Aq nq cq, .int .i64 num] 31)
            have hb3 := hb0.alloc hb0.size (.cells #[.int .u8 kd, .int .i64 q.src, .int .i64 q.dst, .slice Aq nq cq, .int .i64 num] 31)
            have hrow3 := hrow0.alloc (.cells #[.int .u8 kd, .int .i64 q.src, .int .i64 q.dst, .slice Aq nq cq, .int .i64 num] 31)
            have HN3 := Lib.hid hn3; have HF3 := Lib.hid hF3; have HB3 := Lib.hid hb3; have HROW3 := Lib.hid hrow3; have HVF3 := Lib.hid hvf3; have HLS3 := Lib.hid hls3
            have HVB := Lib.hid (show ∀ k, (Value.slice A2 m c2).ownBlock = some k → w.heap.size ≤ k from fun k hk => (hrow3.lt k hk).1)
            clear hn3 hF3 hb3 hrow3 hvf3 hls3 hn0 hb0 hrow0
            have hr4 : kd % 4 = 0 ∨ kd % 4 = 1 ∨ kd % 4 = 2 ∨ kd % 4 = 3 := by omega
            rcases hr4 with hr4 | hr4 | hr4 | hr4
            · as_aux_lemma =>
                have h40 : ((kd : Int) % 4 == 0) = true := by simp; omega
                clear hr4
                have hsd := send_any D w.heap.size F3 (pks ls) q Aq nq cq _ HN3.out (HRD.out.below HB3.out) HB3.out.size (by have := HRD.out.cap; omega) (by rw [pks_len]; have := HM.out; omega)
                have HSD := Lib.hid hsd
                clear hsd
                go_wp2_with fail
                refine HSD.out.mono ?_
                rintro e w5 ⟨rfl, F5, hn5, ht5, hs5⟩
                have hw5 : wr.heap.size < w5.heap.size := by have := ht5.size; simp at this; omega
                have v1 := (ht5.cell (p := ⟨wr.heap.size, 1, none⟩) (by simp) HFT.out).trans ((cellAt 1 (heapNew (w := wr) _)).trans (rfl : _ = some (Value.int .i64 q.src)))
                have v2 := (ht5.cell (p := ⟨wr.heap.size, 2, none⟩) (by simp) HFT.out).trans ((cellAt 2 (heapNew (w := wr) _)).trans (rfl : _ = some (Value.int .i64 q.dst)))
                have v3 := (ht5.cell (p := ⟨wr.heap.size, 3, none⟩) (by simp) HFT.out).trans ((cellAt 3 (heapNew (w := wr) _)).trans (rfl : _ = some (Value.slice Aq nq cq)))
                have hR5 := ownsRow_turned HROW3.out ht5 HVF3.out
                rw [HM.out] at hR5
                have HR5 := Lib.hid hR5
                have HB5 := Lib.hid (HB3.out.trans (ht5.below HB3.out.size HF3.out))
                have HN5 := Lib.hid (show NetAt w5 F5 D (pks (ls ++ [(q, Aq, nq, cq)])) by rw [pks_app]; exact hn5)
                have HF5 := Lib.hid (show ∀ k, F5 k → w.heap.size ≤ k from fun k hk => (hs5 k hk).elim (HF3.out k) (fun h => Nat.le_trans HB3.out.size h))
                have HV5 := Lib.hid (show ∀ k, (Value.slice A2 m c2).ownBlock = some k → w.heap.size ≤ k ∧ ¬ F5 k from fun k hk => ⟨HVB.out k hk, fun hf => (hs5 k hf).elim (HVF3.out k hk) (fun h => by have := (HROW3.out.lt k hk).2; omega)⟩)
                clear hn5 ht5 hs5 hR5
                go_wp2_with (at_builtin; go_must (refine wpList_append_lies _ rfl (.tmp 75) (.tmp 78) _ rfl w.heap.size 29 i0 _ 3 40 Try.underlying26 HI.out HZ0.out HZ1.out HZ2.out rfl (by omega) (.slice A2 m c2) m _ rfl (HR5.out.alloc _) ⟨w5.heap.size, 0, none⟩ 1 1 [.int .i64 q.src, .int .i64 q.dst, .slice Aq nq cq] rfl rfl (World.news_of_block (cs := #[.int .i64 q.src, .int .i64 q.dst, .slice Aq nq cq]) (t := 29) (fr := (0, 0)) (heap_alloc_new w5 _)) (by simp [Value.oneCell']) (by omega) (by simp only [maxLen]; omega) (by omega) (by have := HB5.out.size; simp; omega) (w5.heap.size + 1) (by simp) ?_))
                intro g9 cap9 w9 hown9 hgrow9 hat9 hlt9
                have hfin := Plays.grow (g := g9) (cap := cap9) (x := (q, Aq, nq, cq)) HN5.out HF5.out HB5.out (by rw [HM.out]; exact hown9) hgrow9 hat9 HV5.out HLS3.out ⟨HRD.out, hrc⟩
                rw [HM.out] at hfin
                have HFIN := Lib.hid hfin
                have HLEN := Lib.hid (show (ls ++ [(q, Aq, nq, cq)]).length = m + 1 by rw [List.length_append, HM.out]; rfl)
                clear hown9 hgrow9 hat9 hfin
                go_wp2
                go_meet
                case rel => exact ⟨m + 1, cap9, _, ls ++ [(q, Aq, nq, cq)], rfl, by omega, HLEN, HFIN⟩
            · as_aux_lemma =>
                have h40 : ((kd : Int) % 4 == 0) = false := by simp; omega
                have h41 : ((kd : Int) % 4 == 1) = true := by simp; omega
                have h42 : ((kd : Int) % 4 == 2) = false := by simp; omega
                clear hr4
                have HNO := Lib.hid (at_no (some ⟨D, 0, none⟩) num _ (by
                  have := has_any D F3 (pks ls) num _ (HN3.out.alloc (.cells #[.int .i64 0, .int .i64 0, .slice none 0 0] 29)) hnum1 hnum2
                  rwa [pks_len, HM.out, hth] at this))
                go_wp2_with fail
                refine HNO.out.mono ?_
                rintro e w6 ⟨rfl, hb7⟩
                have hw6 : wr.heap.size < w6.heap.size := by have := hb7.size; simp at this; omega
                have z0 := (hb7.cell (p := ⟨wr.heap.size, 0, none⟩) (by simp)).trans ((cellAt 0 (heapNew (w := wr) _)).trans (rfl : _ = some (Value.int .u8 kd)))
                have HP7 := Lib.hid (HAL.out.below hb7)
                have HSM := Lib.hid (same_eq Pk.none_ none none 0 0 0 0 w6.heap.size (w6.alloc (.cells #[.int .i64 0, .int .i64 0, .slice none 0 0] 29)).drew (Rd.empty (by simp [maxLen])) (Rd.empty (by simp [maxLen])) (by simp))
                clear hb7 HNO
                go_wp2_with fail
                refine wp_region_noPanic ?_
                refine wp_region_held_drew (S := (fun w' => w'.cell? ⟨w6.heap.size, 0, none⟩ = some (.int .i64 0) ∧ w'.cell? ⟨w6.heap.size, 1, none⟩ = some (.int .i64 0) ∧ w'.cell? ⟨w6.heap.size, 2, none⟩ = some (.slice none 0 0))) (by kernel_rfl) ?_ (fun hHeld => ?_)
                · exact ⟨(cellAt 0 (heapNew (w := w6) _)).trans rfl, (cellAt 1 (heapNew (w := w6) _)).trans rfl, (cellAt 2 (heapNew (w := w6) _)).trans rfl⟩
                refine wpAnyH_take (i := 0) (oi := ⟨some 101, _, _, _, _, _⟩) (v := ?_) rfl (by kernel_rfl) (by kernel_rfl) (by kernel_rfl) (fun _ _ _ h => h) (Or.inl ⟨by rfl, ?y0b⟩) hHeld ?r0b
                case y0b => ((intro w hSw; (try dsimp only at hSw); go_simp) <;> (try with_reducible rfl))
                try simp only [Act.put, List.setIfInBounds_toArray, List.set_cons_zero, List.set_cons_succ]
                refine wpAnyH_take (i := 1) (oi := ⟨some 102, _, _, _, _, _⟩) (v := ?_) rfl (by kernel_rfl) (by kernel_rfl) (by kernel_rfl) (fun _ _ _ h => h) (Or.inl ⟨by rfl, ?y1b⟩) hHeld ?r1b
                case y1b => ((intro w hSw; (try dsimp only at hSw); go_simp) <;> (try with_reducible rfl))
                try simp only [Act.put, List.setIfInBounds_toArray, List.set_cons_zero, List.set_cons_succ]
                refine wpAnyH_take (i := 2) (oi := ⟨some 103, _, _, _, _, _⟩) (v := ?_) rfl (by kernel_rfl) (by kernel_rfl) (by kernel_rfl) (fun _ _ _ h => h) (Or.inl ⟨by rfl, ?y2b⟩) hHeld ?r2b
                case y2b => ((intro w hSw; (try dsimp only at hSw); go_simp) <;> (try with_reducible rfl))
                try simp only [Act.put, List.setIfInBounds_toArray, List.set_cons_zero, List.set_cons_succ]
                refine wpAnyH_take (i := 3) (oi := ⟨some 104, _, _, _, _, _⟩) (v := ?_) rfl (by kernel_rfl) (by kernel_rfl) (by kernel_rfl) (fun _ _ _ h => h) (Or.inl ⟨by rfl, ?y3b⟩) hHeld ?r3b
                case y3b => ((intro w hSw; (try dsimp only at hSw); go_simp) <;> (try with_reducible rfl))
                try simp only [Act.put, List.setIfInBounds_toArray, List.set_cons_zero, List.set_cons_succ]
                refine wpAnyH_take (i := 4) (oi := ⟨some 105, _, _, _, _, _⟩) (v := ?_) rfl (by kernel_rfl) (by kernel_rfl) (by kernel_rfl) (fun _ _ _ h => h) (Or.inl ⟨by rfl, ?y4b⟩) hHeld ?r4b
                case y4b => ((intro w hSw; (try dsimp only at hSw); go_simp) <;> (try with_reducible rfl))
                try simp only [Act.put, List.setIfInBounds_toArray, List.set_cons_zero, List.set_cons_succ]
                refine wpAnyH_take (i := 5) (oi := ⟨some 106, _, _, _, _, _⟩) (v := ?_) rfl (by kernel_rfl) (by kernel_rfl) (by kernel_rfl) (fun _ _ _ h => h) (Or.inl ⟨by rfl, ?y5b⟩) hHeld ?r5b
                case y5b => ((intro w hSw; (try dsimp only at hSw); go_simp) <;> (try with_reducible rfl))
                try simp only [Act.put, List.setIfInBounds_toArray, List.set_cons_zero, List.set_cons_succ]
                refine wpAnyH_take (i := 6) (oi := ⟨some 107, _, _, _, _, _⟩) (v := ?_) rfl (by kernel_rfl) (by kernel_rfl) (by kernel_rfl) (fun _ _ _ h => h) (Or.inl ⟨by rfl, ?y6b⟩) hHeld ?r6b
                case y6b => ((intro w hSw; (try dsimp only at hSw); go_simp) <;> (try with_reducible rfl))
                try simp only [Act.put, List.setIfInBounds_toArray, List.set_cons_zero, List.set_cons_succ]
                refine wpAnyH_take (i := 7) (oi := ⟨some 108, _, _, _, _, _⟩) (v := ?_) rfl (by kernel_rfl) (by kernel_rfl) (by kernel_rfl) (fun _ _ _ h => h) (Or.inl ⟨by rfl, ?y7b⟩) hHeld ?r7b
                case y7b => ((intro w hSw; (try dsimp only at hSw); go_simp) <;> (try with_reducible rfl))
                try simp only [Act.put, List.setIfInBounds_toArray, List.set_cons_zero, List.set_cons_succ]
                refine wpAnyH_take (i := 8) (oi := ⟨some 109, _, _, _, _, _⟩) (v := ?_) rfl (by kernel_rfl) (by kernel_rfl) (by kernel_rfl) (fun _ _ _ h => h) (Or.inl ⟨by rfl, ?y8b⟩) hHeld ?r8b
                case y8b => ((intro w hSw; (try dsimp only at hSw); go_simp) <;> (try with_reducible rfl))
                try simp only [Act.put, List.setIfInBounds_toArray, List.set_cons_zero, List.set_cons_succ]
                refine wpAnyH_take (i := 9) (oi := ⟨some 110, _, _, _, _, _⟩) (v := ?_) rfl (by kernel_rfl) (by kernel_rfl) (by kernel_rfl) (fun _ _ _ h => h) (Or.inl ⟨by rfl, ?y9b⟩) hHeld ?r9b
                case y9b => ((intro w hSw; (try dsimp only at hSw); go_simp) <;> (try with_reducible rfl))
                try simp only [Act.put, List.setIfInBounds_toArray, List.set_cons_zero, List.set_cons_succ]
                refine wpAnyH_take (i := 10) (oi := ⟨some 111, _, _, _, _, _⟩) (v := ?_) rfl (by kernel_rfl) (by kernel_rfl) (by kernel_rfl) (fun _ _ _ h => h) (Or.inl ⟨by rfl, ?y10b⟩) hHeld ?r10b
                case y10b => ((intro w hSw; (try dsimp only at hSw); go_simp) <;> (try with_reducible rfl))
                try simp only [Act.put, List.setIfInBounds_toArray, List.set_cons_zero, List.set_cons_succ]
                refine wpAnyH_take (i := 11) (oi := ⟨some 112, _, _, _, _, _⟩) (v := ?_) rfl (by kernel_rfl) (by kernel_rfl) (by kernel_rfl) (fun _ _ _ h => h) (Or.inl ⟨by rfl, ?y11b⟩) hHeld ?r11b
                case y11b => ((intro w hSw; (try dsimp only at hSw); go_simp) <;> (try with_reducible rfl))
                try simp only [Act.put, List.setIfInBounds_toArray, List.set_cons_zero, List.set_cons_succ]
                refine wpAnyH_take (i := 12) (oi := ⟨some 113, _, _, _, _, _⟩) (v := ?_) rfl (by kernel_rfl) (by kernel_rfl) (by kernel_rfl) (fun _ _ _ h => h) (Or.inl ⟨by rfl, ?y12b⟩) hHeld ?r12b
                case y12b => ((intro w hSw; (try dsimp only at hSw); go_simp) <;> (try with_reducible rfl))
                try simp only [Act.put, List.setIfInBounds_toArray, List.set_cons_zero, List.set_cons_succ]
                refine wpAnyH_ready (rs := [13]) (by kernel_rfl) (by simp) ?_
                refine AllReadyH.cons (o := ⟨some 114, _, _, _, _, _⟩) rfl (fun K hK => ?_) AllReadyH.nil
                go_simp
                refine HSM.out.mono ?_
                rintro e w8 ⟨rfl, hb8⟩
                have y0 := (hb8.cell (p := ⟨w6.heap.size, 0, none⟩) (by simp)).trans ((cellAt 0 (heapNew (w := w6) _)).trans (rfl : _ = some (Value.int .i64 0)))
                have y1 := (hb8.cell (p := ⟨w6.heap.size, 1, none⟩) (by simp)).trans ((cellAt 1 (heapNew (w := w6) _)).trans (rfl : _ = some (Value.int .i64 0)))
                have y2 := (hb8.cell (p := ⟨w6.heap.size, 2, none⟩) (by simp)).trans ((cellAt 2 (heapNew (w := w6) _)).trans (rfl : _ = some (Value.slice none 0 0)))
                have y6 := (hb8.cell (p := ⟨wr.heap.size, 0, none⟩) (by simp; omega)).trans ((World.cell?_alloc_lt w6 _ _ hw6).trans z0)
                have HB8 := Lib.hid hb8
                clear hb8
                refine hK.out _ _ ?_ (fun hHeld => ?_)
                · exact ⟨y0, y1, y2⟩
                clear hK K
                try simp only [Act.put, List.setIfInBounds_toArray, List.set_cons_zero, List.set_cons_succ]
                refine wpAnyH_take (i := 14) (oi := ⟨some 115, _, _, _, _, _⟩) (v := ?_) rfl (by kernel_rfl) (by kernel_rfl) (by kernel_rfl) (fun _ _ _ h => h) (Or.inl ⟨by rfl, ?y14b⟩) hHeld ?r14b
                case y14b => ((intro w hSw; (try dsimp only at hSw); go_simp) <;> (try with_reducible rfl))
                try simp only [Act.put, List.setIfInBounds_toArray, List.set_cons_zero, List.set_cons_succ]
                refine wpAnyH_take (i := 15) (oi := ⟨some 116, _, _, _, _, _⟩) (v := ?_) rfl (by kernel_rfl) (by kernel_rfl) (by kernel_rfl) (fun _ _ _ h => h) (Or.inl ⟨by rfl, ?y15b⟩) hHeld ?r15b
                case y15b => ((intro w hSw; (try dsimp only at hSw); go_simp) <;> (try with_reducible rfl))
                try simp only [Act.put, List.setIfInBounds_toArray, List.set_cons_zero, List.set_cons_succ]
                refine wpAnyH_take (i := 16) (oi := ⟨some 117, _, _, _, _, _⟩) (v := ?_) rfl (by kernel_rfl) (by kernel_rfl) (by kernel_rfl) (fun _ _ _ h => h) (Or.inl ⟨by rfl, ?y16b⟩) hHeld ?r16b
                case y16b => ((intro w hSw; (try dsimp only at hSw); go_simp) <;> (try with_reducible rfl))
                try simp only [Act.put, List.setIfInBounds_toArray, List.set_cons_zero, List.set_cons_succ]
                refine wpAnyH_take (i := 17) (oi := ⟨some 118, _, _, _, _, _⟩) (v := ?_) rfl (by kernel_rfl) (by kernel_rfl) (by kernel_rfl) (fun _ _ _ h => h) (Or.inl ⟨by rfl, ?y17b⟩) hHeld ?r17b
                case y17b => ((intro w hSw; (try dsimp only at hSw); go_simp) <;> (try with_reducible rfl))
                try simp only [Act.put, List.setIfInBounds_toArray, List.set_cons_zero, List.set_cons_succ]
                refine wpAnyH_take (i := 18) (oi := ⟨some 119, _, _, _, _, _⟩) (v := ?_) rfl (by kernel_rfl) (by kernel_rfl) (by kernel_rfl) (fun _ _ _ h => h) (Or.inl ⟨by rfl, ?y18b⟩) hHeld ?r18b
                case y18b => ((intro w hSw; (try dsimp only at hSw); go_simp) <;> (try with_reducible rfl))
                try simp only [Act.put, List.setIfInBounds_toArray, List.set_cons_zero, List.set_cons_succ]
                refine wpAnyH_take (i := 19) (oi := ⟨some 120, _, _, _, _, _⟩) (v := ?_) rfl (by kernel_rfl) (by kernel_rfl) (by kernel_rfl) (fun _ _ _ h => h) (Or.inl ⟨by rfl, ?y19b⟩) hHeld ?r19b
                case y19b => ((intro w hSw; (try dsimp only at hSw); go_simp) <;> (try with_reducible rfl))
                try simp only [Act.put, List.setIfInBounds_toArray, List.set_cons_zero, List.set_cons_succ]
                refine wpAnyH_take (i := 20) (oi := ⟨some 121, _, _, _, _, _⟩) (v := ?_) rfl (by kernel_rfl) (by kernel_rfl) (by kernel_rfl) (fun _ _ _ h => h) (Or.inl ⟨by rfl, ?y20b⟩) hHeld ?r20b
                case y20b => ((intro w hSw; (try dsimp only at hSw); go_simp) <;> (try with_reducible rfl))
                try simp only [Act.put, List.setIfInBounds_toArray, List.set_cons_zero, List.set_cons_succ]
                refine wpAnyH_take (i := 21) (oi := ⟨some 122, _, _, _, _, _⟩) (v := undef) rfl (by kernel_rfl) (by kernel_rfl) (by kernel_rfl) (fun _ _ _ h => h) (Or.inr ⟨by rfl, rfl⟩) hHeld ?_
                try simp only [Act.put, List.setIfInBounds_toArray, List.set_cons_zero, List.set_cons_succ]
                refine wpAnyH_take (i := 22) (oi := ⟨some 123, _, _, _, _, _⟩) (v := undef) rfl (by kernel_rfl) (by kernel_rfl) (by kernel_rfl) (fun _ _ _ h => h) (Or.inr ⟨by rfl, rfl⟩) hHeld ?_
                try simp only [Act.put, List.setIfInBounds_toArray, List.set_cons_zero, List.set_cons_succ]
                refine wpAnyH_take (i := 23) (oi := ⟨some 124, _, _, _, _, _⟩) (v := undef) rfl (by kernel_rfl) (by kernel_rfl) (by kernel_rfl) (fun _ _ _ h => h) (Or.inr ⟨by rfl, rfl⟩) hHeld ?_
                try simp only [Act.put, List.setIfInBounds_toArray, List.set_cons_zero, List.set_cons_succ]
                refine wpAnyH_take (i := 24) (oi := ⟨some 125, _, _, _, _, _⟩) (v := undef) rfl (by kernel_rfl) (by kernel_rfl) (by kernel_rfl) (fun _ _ _ h => h) (Or.inr ⟨by rfl, rfl⟩) hHeld ?_
                try simp only [Act.put, List.setIfInBounds_toArray, List.set_cons_zero, List.set_cons_succ]
                refine wpAnyH_take (i := 25) (oi := ⟨some 126, _, _, _, _, _⟩) (v := undef) rfl (by kernel_rfl) (by kernel_rfl) (by kernel_rfl) (fun _ _ _ h => h) (Or.inr ⟨by rfl, rfl⟩) hHeld ?_
                try simp only [Act.put, List.setIfInBounds_toArray, List.set_cons_zero, List.set_cons_succ]
                refine wpAnyH_take (i := 26) (oi := ⟨some 127, _, _, _, _, _⟩) (v := undef) rfl (by kernel_rfl) (by kernel_rfl) (by kernel_rfl) (fun _ _ _ h => h) (Or.inr ⟨by rfl, rfl⟩) hHeld ?_
                try simp only [Act.put, List.setIfInBounds_toArray, List.set_cons_zero, List.set_cons_succ]
                refine wpAnyH_take (i := 27) (oi := ⟨some 128, _, _, _, _, _⟩) (v := undef) rfl (by kernel_rfl) (by kernel_rfl) (by kernel_rfl) (fun _ _ _ h => h) (Or.inr ⟨by rfl, rfl⟩) hHeld ?_
                try simp only [Act.put, List.setIfInBounds_toArray, List.set_cons_zero, List.set_cons_succ]
                refine wpAnyH_take (i := 28) (oi := ⟨some 129, _, _, _, _, _⟩) (v := undef) rfl (by kernel_rfl) (by kernel_rfl) (by kernel_rfl) (fun _ _ _ h => h) (Or.inr ⟨by rfl, rfl⟩) hHeld ?_
                try simp only [Act.put, List.setIfInBounds_toArray, List.set_cons_zero, List.set_cons_succ]
                refine wpAnyH_take (i := 29) (oi := ⟨some 130, _, _, _, _, _⟩) (v := ?_) rfl (by kernel_rfl) (by kernel_rfl) (by kernel_rfl) (fun _ _ _ h => h) (Or.inl ⟨by rfl, ?y29b⟩) hHeld ?r29b
                case y29b => ((intro w hSw; (try dsimp only at hSw); go_simp) <;> (try with_reducible rfl))
                try simp only [Act.put, List.setIfInBounds_toArray, List.set_cons_zero, List.set_cons_succ]
                refine wpAnyH_take (i := 30) (oi := ⟨some 131, _, _, _, _, _⟩) (v := ?_) rfl (by kernel_rfl) (by kernel_rfl) (by kernel_rfl) (fun _ _ _ h => h) (Or.inl ⟨by rfl, ?y30b⟩) hHeld ?r30b
                case y30b => ((intro w hSw; (try dsimp only at hSw); go_simp) <;> (try with_reducible rfl))
                try simp only [Act.put, List.setIfInBounds_toArray, List.set_cons_zero, List.set_cons_succ]
                refine wpAnyH_done (by kernel_rfl) ?_ _
                refine NoPanic.normal ?_
                have HP8 := Lib.hid ((HP7.out.alloc _).drew.below HB8.out)
                go_wp2
                go_meet
                case rel => exact ⟨m, c2, _, ls, rfl, by omega, HM, HP8⟩
            · as_aux_lemma =>
                have h40 : ((kd : Int) % 4 == 0) = false := by simp; omega
                have h41 : ((kd : Int) % 4 == 1) = false := by simp; omega
                have h42 : ((kd : Int) % 4 == 2) = true := by simp; omega
                clear hr4
                have HNO := Lib.hid (at_no (some ⟨D, 0, none⟩) num _ (by
                  have := has_any D F3 (pks ls) num _ (HN3.out.alloc (.cells #[.int .i64 0, .int .i64 0, .slice none 0 0] 29)) hnum1 hnum2
                  rwa [pks_len, HM.out, hth] at this))
                go_wp2_with fail
                refine HNO.out.mono ?_
                rintro e w6 ⟨rfl, hb7⟩
                have hw6 : wr.heap.size < w6.heap.size := by have := hb7.size; simp at this; omega
                have z0 := (hb7.cell (p := ⟨wr.heap.size, 0, none⟩) (by simp)).trans ((cellAt 0 (heapNew (w := wr) _)).trans (rfl : _ = some (Value.int .u8 kd)))
                have z4 := (hb7.cell (p := ⟨wr.heap.size, 4, none⟩) (by simp)).trans ((cellAt 4 (heapNew (w := wr) _)).trans (rfl : _ = some (Value.int .i64 num)))
                have HP7 := Lib.hid (HAL.out.below hb7)
                have HNT := Lib.hid (take_no (some ⟨D, 0, none⟩) num (w6.alloc (.cells #[.int .i64 0, .int .i64 0, .slice none 0 0] 29)) (by
                  have := has_any D F3 (pks ls) num _ (((HN3.out.below hb7).alloc (.cells #[.int .i64 0, .int .i64 0, .slice none 0 0] 29)).alloc (.cells #[.int .i64 0, .int .i64 0, .slice none 0 0] 29)) hnum1 hnum2
                  rwa [pks_len, HM.out, hth] at this))
                clear hb7 HNO
                go_wp2_with fail
                refine HNT.out.mono ?_
                rintro e w7 ⟨rfl, hb7⟩
                have hw7 : w6.heap.size < w7.heap.size := by have := hb7.size; simp at this; omega
                have hV := (hb7.block w6.heap.size (by simp)).trans (heapNew (w := w6) _)
                have v0 := (cellAt 0 hV).trans (rfl : _ = some (Value.int .i64 0))
                have v1 := (cellAt 1 hV).trans (rfl : _ = some (Value.int .i64 0))
                have v2 := (cellAt 2 hV).trans (rfl : _ = some (Value.slice none 0 0))
                have f0 := freeAt 0 hV; have f1 := freeAt 1 hV; have f2 := freeAt 2 hV
                obtain ⟨w9, hw9⟩ : ∃ x, x = ((w7.setCell ⟨w6.heap.size, 0, none⟩ (.int .i64 0)).setCell ⟨w6.heap.size, 1, none⟩ (.int .i64 0)).setCell ⟨w6.heap.size, 2, none⟩ (.slice none 0 0) := ⟨_, rfl⟩
                have HV9 := Lib.hid (show w9.heap[w6.heap.size]? = some (.cells #[.int .i64 0, .int .i64 0, .slice none 0 0] 29 (0, 0)) by rw [hw9]; exact (set3 _ _ _ hV).2.2.2)
                have HT9 := Lib.hid (show Turned (· = w6.heap.size) w7 w9 by rw [hw9]; exact (((Turned.refl (· = w6.heap.size) w7).setCell (p := ⟨w6.heap.size, 0, none⟩) (.inl rfl) _).setCell (p := ⟨w6.heap.size, 1, none⟩) (.inl rfl) _).setCell (p := ⟨w6.heap.size, 2, none⟩) (.inl rfl) _)
                have HB9 := Lib.hid (show Below w6.heap.size w6 w9 from (((Below.refl _ w6).alloc (Nat.le_refl _) _).trans (hb7.mono (by simp))).trans (HT9.out.below (by omega) (fun k hk => by omega)))
                have z9 := (HB9.out.cell (p := ⟨wr.heap.size, 0, none⟩) hw6).trans z0
                have HP9 := Lib.hid (HP7.out.below HB9.out)
                have HW9 := Lib.hid hw9
                have hw9s : w6.heap.size < w9.heap.size := heapLt HV9.out
                have HSM := Lib.hid (same_eq Pk.none_ none none 0 0 0 0 w9.heap.size w9.drew (Rd.empty (by simp [maxLen])) (Rd.empty (by simp [maxLen])) (Nat.le_refl _))
                clear hb7 hV hw9 HNT
                go_wp2_with fail
                rw [← HW9.out]
                refine wp_region_noPanic ?_
                refine wp_region_held_drew (S := (fun w' => w'.cell? ⟨w6.heap.size, 0, none⟩ = some (.int .i64 0) ∧ w'.cell? ⟨w6.heap.size, 1, none⟩ = some (.int .i64 0) ∧ w'.cell? ⟨w6.heap.size, 2, none⟩ = some (.slice none 0 0))) (by kernel_rfl) ?_ (fun hHeld => ?_)
                · exact ⟨(cellAt 0 HV9.out).trans rfl, (cellAt 1 HV9.out).trans rfl, (cellAt 2 HV9.out).trans rfl⟩
                refine wpAnyH_take (i := 0) (oi := ⟨some 101, _, _, _, _, _⟩) (v := ?_) rfl (by kernel_rfl) (by kernel_rfl) (by kernel_rfl) (fun _ _ _ h => h) (Or.inl ⟨by rfl, ?y0d⟩) hHeld ?r0d
                case y0d => ((intro w hSw; (try dsimp only at hSw); go_simp) <;> (try with_reducible rfl))
                try simp only [Act.put, List.setIfInBounds_toArray, List.set_cons_zero, List.set_cons_succ]
                refine wpAnyH_take (i := 1) (oi := ⟨some 102, _, _, _, _, _⟩) (v := ?_) rfl (by kernel_rfl) (by kernel_rfl) (by kernel_rfl) (fun _ _ _ h => h) (Or.inl ⟨by rfl, ?y1d⟩) hHeld ?r1d
                case y1d => ((intro w hSw; (try dsimp only at hSw); go_simp) <;> (try with_reducible rfl))
                try simp only [Act.put, List.setIfInBounds_toArray, List.set_cons_zero, List.set_cons_succ]
                refine wpAnyH_take (i := 2) (oi := ⟨some 103, _, _, _, _, _⟩) (v := ?_) rfl (by kernel_rfl) (by kernel_rfl) (by kernel_rfl) (fun _ _ _ h => h) (Or.inl ⟨by rfl, ?y2d⟩) hHeld ?r2d
                case y2d => ((intro w hSw; (try dsimp only at hSw); go_simp) <;> (try with_reducible rfl))
                try simp only [Act.put, List.setIfInBounds_toArray, List.set_cons_zero, List.set_cons_succ]
                refine wpAnyH_take (i := 3) (oi := ⟨some 104, _, _, _, _, _⟩) (v := ?_) rfl (by kernel_rfl) (by kernel_rfl) (by kernel_rfl) (fun _ _ _ h => h) (Or.inl ⟨by rfl, ?y3d⟩) hHeld ?r3d
                case y3d => ((intro w hSw; (try dsimp only at hSw); go_simp) <;> (try with_reducible rfl))
                try simp only [Act.put, List.setIfInBounds_toArray, List.set_cons_zero, List.set_cons_succ]
                refine wpAnyH_take (i := 4) (oi := ⟨some 105, _, _, _, _, _⟩) (v := ?_) rfl (by kernel_rfl) (by kernel_rfl) (by kernel_rfl) (fun _ _ _ h => h) (Or.inl ⟨by rfl, ?y4d⟩) hHeld ?r4d
                case y4d => ((intro w hSw; (try dsimp only at hSw); go_simp) <;> (try with_reducible rfl))
                try simp only [Act.put, List.setIfInBounds_toArray, List.set_cons_zero, List.set_cons_succ]
                refine wpAnyH_take (i := 5) (oi := ⟨some 106, _, _, _, _, _⟩) (v := ?_) rfl (by kernel_rfl) (by kernel_rfl) (by kernel_rfl) (fun _ _ _ h => h) (Or.inl ⟨by rfl, ?y5d⟩) hHeld ?r5d
                case y5d => ((intro w hSw; (try dsimp only at hSw); go_simp) <;> (try with_reducible rfl))
                try simp only [Act.put, List.setIfInBounds_toArray, List.set_cons_zero, List.set_cons_succ]
                refine wpAnyH_take (i := 6) (oi := ⟨some 107, _, _, _, _, _⟩) (v := ?_) rfl (by kernel_rfl) (by kernel_rfl) (by kernel_rfl) (fun _ _ _ h => h) (Or.inl ⟨by rfl, ?y6d⟩) hHeld ?r6d
                case y6d => ((intro w hSw; (try dsimp only at hSw); go_simp) <;> (try with_reducible rfl))
                try simp only [Act.put, List.setIfInBounds_toArray, List.set_cons_zero, List.set_cons_succ]
                refine wpAnyH_take (i := 7) (oi := ⟨some 108, _, _, _, _, _⟩) (v := ?_) rfl (by kernel_rfl) (by kernel_rfl) (by kernel_rfl) (fun _ _ _ h => h) (Or.inl ⟨by rfl, ?y7d⟩) hHeld ?r7d
                case y7d => ((intro w hSw; (try dsimp only at hSw); go_simp) <;> (try with_reducible rfl))
                try simp only [Act.put, List.setIfInBounds_toArray, List.set_cons_zero, List.set_cons_succ]
                refine wpAnyH_take (i := 8) (oi := ⟨some 109, _, _, _, _, _⟩) (v := ?_) rfl (by kernel_rfl) (by kernel_rfl) (by kernel_rfl) (fun _ _ _ h => h) (Or.inl ⟨by rfl, ?y8d⟩) hHeld ?r8d
                case y8d => ((intro w hSw; (try dsimp only at hSw); go_simp) <;> (try with_reducible rfl))
                try simp only [Act.put, List.setIfInBounds_toArray, List.set_cons_zero, List.set_cons_succ]
                refine wpAnyH_take (i := 9) (oi := ⟨some 110, _, _, _, _, _⟩) (v := ?_) rfl (by kernel_rfl) (by kernel_rfl) (by kernel_rfl) (fun _ _ _ h => h) (Or.inl ⟨by rfl, ?y9d⟩) hHeld ?r9d
                case y9d => ((intro w hSw; (try dsimp only at hSw); go_simp) <;> (try with_reducible rfl))
                try simp only [Act.put, List.setIfInBounds_toArray, List.set_cons_zero, List.set_cons_succ]
                refine wpAnyH_take (i := 10) (oi := ⟨some 111, _, _, _, _, _⟩) (v := ?_) rfl (by kernel_rfl) (by kernel_rfl) (by kernel_rfl) (fun _ _ _ h => h) (Or.inl ⟨by rfl, ?y10d⟩) hHeld ?r10d
                case y10d => ((intro w hSw; (try dsimp only at hSw); go_simp) <;> (try with_reducible rfl))
                try simp only [Act.put, List.setIfInBounds_toArray, List.set_cons_zero, List.set_cons_succ]
                refine wpAnyH_take (i := 11) (oi := ⟨some 112, _, _, _, _, _⟩) (v := ?_) rfl (by kernel_rfl) (by kernel_rfl) (by kernel_rfl) (fun _ _ _ h => h) (Or.inl ⟨by rfl, ?y11d⟩) hHeld ?r11d
                case y11d => ((intro w hSw; (try dsimp only at hSw); go_simp) <;> (try with_reducible rfl))
                try simp only [Act.put, List.setIfInBounds_toArray, List.set_cons_zero, List.set_cons_succ]
                refine wpAnyH_take (i := 12) (oi := ⟨some 113, _, _, _, _, _⟩) (v := ?_) rfl (by kernel_rfl) (by kernel_rfl) (by kernel_rfl) (fun _ _ _ h => h) (Or.inl ⟨by rfl, ?y12d⟩) hHeld ?r12d
                case y12d => ((intro w hSw; (try dsimp only at hSw); go_simp) <;> (try with_reducible rfl))
                try simp only [Act.put, List.setIfInBounds_toArray, List.set_cons_zero, List.set_cons_succ]
                refine wpAnyH_ready (rs := [13]) (by kernel_rfl) (by simp) ?_
                refine AllReadyH.cons (o := ⟨some 114, _, _, _, _, _⟩) rfl (fun K hK => ?_) AllReadyH.nil
                go_simp
                refine HSM.out.mono ?_
                rintro e w8 ⟨rfl, hb8⟩
                have y0 := (hb8.cell (p := ⟨w6.heap.size, 0, none⟩) hw9s).trans ((cellAt 0 HV9.out).trans (rfl : _ = some (Value.int .i64 0)))
                have y1 := (hb8.cell (p := ⟨w6.heap.size, 1, none⟩) hw9s).trans ((cellAt 1 HV9.out).trans (rfl : _ = some (Value.int .i64 0)))
                have y2 := (hb8.cell (p := ⟨w6.heap.size, 2, none⟩) hw9s).trans ((cellAt 2 HV9.out).trans (rfl : _ = some (Value.slice none 0 0)))
                have y6 := (hb8.cell (p := ⟨wr.heap.size, 0, none⟩) (by show wr.heap.size < w9.heap.size; omega)).trans z9
                have HB8 := Lib.hid hb8
                clear hb8
                refine hK.out _ _ ?_ (fun hHeld => ?_)
                · exact ⟨y0, y1, y2⟩
                clear hK K
                try simp only [Act.put, List.setIfInBounds_toArray, List.set_cons_zero, List.set_cons_succ]
                refine wpAnyH_take (i := 14) (oi := ⟨some 115, _, _, _, _, _⟩) (v := ?_) rfl (by kernel_rfl) (by kernel_rfl) (by kernel_rfl) (fun _ _ _ h => h) (Or.inl ⟨by rfl, ?y14d⟩) hHeld ?r14d
                case y14d => ((intro w hSw; (try dsimp only at hSw); go_simp) <;> (try with_reducible rfl))
                try simp only [Act.put, List.setIfInBounds_toArray, List.set_cons_zero, List.set_cons_succ]
                refine wpAnyH_take (i := 15) (oi := ⟨some 116, _, _, _, _, _⟩) (v := ?_) rfl (by kernel_rfl) (by kernel_rfl) (by kernel_rfl) (fun _ _ _ h => h) (Or.inl ⟨by rfl, ?y15d⟩) hHeld ?r15d
                case y15d => ((intro w hSw; (try dsimp only at hSw); go_simp) <;> (try with_reducible rfl))
                try simp only [Act.put, List.setIfInBounds_toArray, List.set_cons_zero, List.set_cons_succ]
                refine wpAnyH_take (i := 16) (oi := ⟨some 117, _, _, _, _, _⟩) (v := ?_) rfl (by kernel_rfl) (by kernel_rfl) (by kernel_rfl) (fun _ _ _ h => h) (Or.inl ⟨by rfl, ?y16d⟩) hHeld ?r16d
                case y16d => ((intro w hSw; (try dsimp only at hSw); go_simp) <;> (try with_reducible rfl))
                try simp only [Act.put, List.setIfInBounds_toArray, List.set_cons_zero, List.set_cons_succ]
                refine wpAnyH_take (i := 17) (oi := ⟨some 118, _, _, _, _, _⟩) (v := ?_) rfl (by kernel_rfl) (by kernel_rfl) (by kernel_rfl) (fun _ _ _ h => h) (Or.inl ⟨by rfl, ?y17d⟩) hHeld ?r17d
                case y17d => ((intro w hSw; (try dsimp only at hSw); go_simp) <;> (try with_reducible rfl))
                try simp only [Act.put, List.setIfInBounds_toArray, List.set_cons_zero, List.set_cons_succ]
                refine wpAnyH_take (i := 18) (oi := ⟨some 119, _, _, _, _, _⟩) (v := ?_) rfl (by kernel_rfl) (by kernel_rfl) (by kernel_rfl) (fun _ _ _ h => h) (Or.inl ⟨by rfl, ?y18d⟩) hHeld ?r18d
                case y18d => ((intro w hSw; (try dsimp only at hSw); go_simp) <;> (try with_reducible rfl))
                try simp only [Act.put, List.setIfInBounds_toArray, List.set_cons_zero, List.set_cons_succ]
                refine wpAnyH_take (i := 19) (oi := ⟨some 120, _, _, _, _, _⟩) (v := ?_) rfl (by kernel_rfl) (by kernel_rfl) (by kernel_rfl) (fun _ _ _ h => h) (Or.inl ⟨by rfl, ?y19d⟩) hHeld ?r19d
                case y19d => ((intro w hSw; (try dsimp only at hSw); go_simp) <;> (try with_reducible rfl))
                try simp only [Act.put, List.setIfInBounds_toArray, List.set_cons_zero, List.set_cons_succ]
                refine wpAnyH_take (i := 20) (oi := ⟨some 121, _, _, _, _, _⟩) (v := ?_) rfl (by kernel_rfl) (by kernel_rfl) (by kernel_rfl) (fun _ _ _ h => h) (Or.inl ⟨by rfl, ?y20d⟩) hHeld ?r20d
                case y20d => ((intro w hSw; (try dsimp only at hSw); go_simp) <;> (try with_reducible rfl))
                try simp only [Act.put, List.setIfInBounds_toArray, List.set_cons_zero, List.set_cons_succ]
                refine wpAnyH_take (i := 21) (oi := ⟨some 122, _, _, _, _, _⟩) (v := undef) rfl (by kernel_rfl) (by kernel_rfl) (by kernel_rfl) (fun _ _ _ h => h) (Or.inr ⟨by rfl, rfl⟩) hHeld ?_
                try simp only [Act.put, List.setIfInBounds_toArray, List.set_cons_zero, List.set_cons_succ]
                refine wpAnyH_take (i := 22) (oi := ⟨some 123, _, _, _, _, _⟩) (v := undef) rfl (by kernel_rfl) (by kernel_rfl) (by kernel_rfl) (fun _ _ _ h => h) (Or.inr ⟨by rfl, rfl⟩) hHeld ?_
                try simp only [Act.put, List.setIfInBounds_toArray, List.set_cons_zero, List.set_cons_succ]
                refine wpAnyH_take (i := 23) (oi := ⟨some 124, _, _, _, _, _⟩) (v := undef) rfl (by kernel_rfl) (by kernel_rfl) (by kernel_rfl) (fun _ _ _ h => h) (Or.inr ⟨by rfl, rfl⟩) hHeld ?_
                try simp only [Act.put, List.setIfInBounds_toArray, List.set_cons_zero, List.set_cons_succ]
                refine wpAnyH_take (i := 24) (oi := ⟨some 125, _, _, _, _, _⟩) (v := undef) rfl (by kernel_rfl) (by kernel_rfl) (by kernel_rfl) (fun _ _ _ h => h) (Or.inr ⟨by rfl, rfl⟩) hHeld ?_
                try simp only [Act.put, List.setIfInBounds_toArray, List.set_cons_zero, List.set_cons_succ]
                refine wpAnyH_take (i := 25) (oi := ⟨some 126, _, _, _, _, _⟩) (v := undef) rfl (by kernel_rfl) (by kernel_rfl) (by kernel_rfl) (fun _ _ _ h => h) (Or.inr ⟨by rfl, rfl⟩) hHeld ?_
                try simp only [Act.put, List.setIfInBounds_toArray, List.set_cons_zero, List.set_cons_succ]
                refine wpAnyH_take (i := 26) (oi := ⟨some 127, _, _, _, _, _⟩) (v := undef) rfl (by kernel_rfl) (by kernel_rfl) (by kernel_rfl) (fun _ _ _ h => h) (Or.inr ⟨by rfl, rfl⟩) hHeld ?_
                try simp only [Act.put, List.setIfInBounds_toArray, List.set_cons_zero, List.set_cons_succ]
                refine wpAnyH_take (i := 27) (oi := ⟨some 128, _, _, _, _, _⟩) (v := undef) rfl (by kernel_rfl) (by kernel_rfl) (by kernel_rfl) (fun _ _ _ h => h) (Or.inr ⟨by rfl, rfl⟩) hHeld ?_
                try simp only [Act.put, List.setIfInBounds_toArray, List.set_cons_zero, List.set_cons_succ]
                refine wpAnyH_take (i := 28) (oi := ⟨some 129, _, _, _, _, _⟩) (v := undef) rfl (by kernel_rfl) (by kernel_rfl) (by kernel_rfl) (fun _ _ _ h => h) (Or.inr ⟨by rfl, rfl⟩) hHeld ?_
                try simp only [Act.put, List.setIfInBounds_toArray, List.set_cons_zero, List.set_cons_succ]
                refine wpAnyH_take (i := 29) (oi := ⟨some 130, _, _, _, _, _⟩) (v := ?_) rfl (by kernel_rfl) (by kernel_rfl) (by kernel_rfl) (fun _ _ _ h => h) (Or.inl ⟨by rfl, ?y29d⟩) hHeld ?r29d
                case y29d => ((intro w hSw; (try dsimp only at hSw); go_simp) <;> (try with_reducible rfl))
                try simp only [Act.put, List.setIfInBounds_toArray, List.set_cons_zero, List.set_cons_succ]
                refine wpAnyH_take (i := 30) (oi := ⟨some 131, _, _, _, _, _⟩) (v := ?_) rfl (by kernel_rfl) (by kernel_rfl) (by kernel_rfl) (fun _ _ _ h => h) (Or.inl ⟨by rfl, ?y30d⟩) hHeld ?r30d
                case y30d => ((intro w hSw; (try dsimp only at hSw); go_simp) <;> (try with_reducible rfl))
                try simp only [Act.put, List.setIfInBounds_toArray, List.set_cons_zero, List.set_cons_succ]
                refine wpAnyH_done (by kernel_rfl) ?_ _
                refine NoPanic.normal ?_
                have HP8 := Lib.hid (HP9.out.drew.below HB8.out)
                go_wp2
                go_meet
                case rel => exact ⟨m, c2, _, ls, rfl, by omega, HM, HP8⟩
            · as_aux_lemma =>
                have h40 : ((kd : Int) % 4 == 0) = false := by simp; omega
                have h41 : ((kd : Int) % 4 == 1) = false := by simp; omega
                have h42 : ((kd : Int) % 4 == 2) = false := by simp; omega
                clear hr4
                have HNC := Lib.hid (copy_no (some ⟨D, 0, none⟩) num _ (by
                  have := has_any D F3 (pks ls) num _ HN3.out hnum1 hnum2
                  rwa [pks_len, HM.out, hth] at this))
                go_wp2_with fail
                refine HNC.out.mono ?_
                rintro e w6 ⟨rfl, rfl⟩
                go_wp2
                go_meet
                case rel => exact ⟨m, c2, _, ls, rfl, by omega, HM, HAL⟩
          case rest =>
            as_aux_lemma =>
              obtain ⟨m3, c5, A5, ls3, rfl, hm3, HM3, HP3⟩ := hcut
              rename World => wc
              obtain ⟨F3, hn3, hF3, hb3, hrow3, hvf3, hls3⟩ := HP3.out
              obtain ⟨A6, c6, hv6, hc6, hc6m⟩ := hrow3.form
              injection hv6 with e1 e2 e3
              subst e1 e3
              rw [HM3.out] at hc6
              have hln := len_any D F3 (pks ls3) wc hn3
              rw [pks_len, HM3.out] at hln
              have HLN := Lib.hid hln
              clear hn3 hF3 hb3 hrow3 hvf3 hls3 hln e2 HAL HTH
              go_wp2_with fail
              refine HLN.out.mono ?_
              rintro e w6 ⟨rfl, rfl⟩
              go_wp2_with fail
              go_loopw [11] (fun p wz => ∃ k : Nat, p = .int .i64 k ∧ k ≤ m3 ∧ Hid (Plays w D (.slice A5 m3 c5) ls3 wz)) (fun p _ => m3 - (intOf p).toNat)
              case atStart => exact ⟨0, rfl, Nat.zero_le _, HP3⟩
              case round =>
                obtain ⟨k, rfl, hk, HPZ⟩ := hrel
                rename World => wz
                by_cases hkm : k < m3
                · have hkl : k < ls3.length := by have := HM3.out; omega
                  obtain ⟨F4, hn4, hF4, hb4, hrow4, hvf4, hls4⟩ := HPZ.out
                  have hat := at_any D k F4 (pks ls3) wz hn4 (by rw [pks_len]; exact hkl) (by rw [pks_len]; have := HM3.out; omega)
                  rw [pks_at hkl] at hat
                  have HAT := Lib.hid hat
                  have HRX := Lib.hid (fun wy (hy : Below w.heap.size w wy) => (hls4 ls3[k] (List.getElem_mem hkl)).1.below hy)
                  have HLK := Lib.hid (fun wy (hy : Below wz.heap.size wz wy) => (hrow4.below hy).look hkl)
                  have HB4 := Lib.hid hb4
                  clear hn4 hF4 hb4 hrow4 hvf4 hls4 hat
                  go_wp2_with fail
                  refine HAT.out.mono ?_
                  rintro e w7 ⟨g7, rfl, hown7, hb7⟩
                  obtain ⟨g9, hA9, hg9, hg9', k10, k11, k12⟩ := HLK.out w7 hb7
                  have HB7 := Lib.hid (HB4.out.trans (hb7.mono HB4.out.size))
                  have HRX7 := Lib.hid ((HRX.out w7 HB7.out).more HB7.out.size)
                  have HP7 := Lib.hid (HPZ.out.below hb7)
                  subst hA9
                  clear HLK HRX HAT
                  generalize ls3[k] = x at *
                  obtain ⟨q9, A9, n9, c9⟩ := x
                  simp only at k10 k11 k12 HRX7 hown7
                  rw [show pkVal (q9, A9, n9, c9).1 g7 = .agg #[.int .i64 q9.src, .int .i64 q9.dst, .slice (some ⟨g7, 0, none⟩) q9.data.length q9.data.length] from rfl]
                  obtain ⟨A8, c8, hv8, hrd8⟩ := hown7.open_
                  unfold slOf at hv8
                  injection hv8 with e81 e82 e83
                  subst e81 e83
                  have HSM := Lib.hid (same_eq q9 _ _ _ _ _ _ w7.heap.size (w7.alloc (.cells #[.int .i64 q9.src, .int .i64 q9.dst, .slice (some ⟨g7, 0, none⟩) q9.data.length q9.data.length] 29)).drew ((hrd8.alloc (Nat.le_refl _) _).drew) ((HRX7.out.alloc (Nat.le_refl _) _).drew) (by simp))
                  clear hown7 hb7 hrd8 e82
                  generalize q9.data.length = l9 at *
                  have hkk0 : (0 : Int) ≤ (k : Int) := by omega
                  have hkk1 : (k : Int) < (m3 : Int) := by omega
                  go_wp2_with fail
                  go_region_held3 (fun w' => w'.cell? ⟨w7.heap.size, 0, none⟩ = some (.int .i64 q9.src) ∧ w'.cell? ⟨w7.heap.size, 1, none⟩ = some (.int .i64 q9.dst) ∧ w'.cell? ⟨w7.heap.size, 2, none⟩ = some (.slice (some ⟨g7, 0, none⟩) l9 l9) ∧ w'.cell? ⟨g9, k * 3, none⟩ = some (.int .i64 q9.src) ∧ w'.cell? ⟨g9, k * 3 + 1, none⟩ = some (.int .i64 q9.dst) ∧ w'.cell? ⟨g9, k * 3 + 2, none⟩ = some (.slice A9 n9 c9))
                    (go_keep)
                    ((go_at_call 12; refine HSM.out.mono ?_; rintro e w8 ⟨rfl, hb8⟩
                      have y0 := (hb8.cell (p := ⟨w7.heap.size, 0, none⟩) (by simp)).trans ((cellAt 0 (heapNew (w := w7) _)).trans (rfl : _ = some (Value.int .i64 q9.src)))
                      have y1 := (hb8.cell (p := ⟨w7.heap.size, 1, none⟩) (by simp)).trans ((cellAt 1 (heapNew (w := w7) _)).trans (rfl : _ = some (Value.int .i64 q9.dst)))
                      have y2 := (hb8.cell (p := ⟨w7.heap.size, 2, none⟩) (by simp)).trans ((cellAt 2 (heapNew (w := w7) _)).trans (rfl : _ = some (Value.slice (some ⟨g7, 0, none⟩) l9 l9)))
                      have y3 := (hb8.cell (p := ⟨g9, k * 3, none⟩) (by simp; omega)).trans ((World.cell?_alloc_lt w7 _ _ hg9').trans k10)
                      have y4 := (hb8.cell (p := ⟨g9, k * 3 + 1, none⟩) (by simp; omega)).trans ((World.cell?_alloc_lt w7 _ _ hg9').trans k11)
                      have y5 := (hb8.cell (p := ⟨g9, k * 3 + 2, none⟩) (by simp; omega)).trans ((World.cell?_alloc_lt w7 _ _ hg9').trans k12)
                      have HB8 := Lib.hid hb8
                      clear hb8))
                  have HP8 := Lib.hid ((HP7.out.alloc _).drew.below HB8.out)
                  go_wp2
                  go_roundw
                  case rel => exact ⟨k + 1, by go_num, by omega, HP8⟩
                  case measure => simp [intOf]; omega
                · go_wp2
                  go_roundw
                  case rel => exact ⟨i + 1, m3, c5, A5, ls3, by go_num, rfl, by omega, by omega, by omega, HM3, HPZ⟩
                  case measure => simp [intOf]; omega
        · go_upto_block 2 with (fail)
          go_cut [4] (fun s4 wx => ∃ (m3 c3 : Nat) (A3 : Option Addr) (ls3 : Xs), s4 = .slice A3 m3 c3 ∧ m3 ≤ i + 1 ∧ Hid (ls3.length = m3) ∧ Hid (Plays w D (.slice A3 m3 c3) ls3 wx))
          case first =>
            obtain ⟨F3, hn0, hF3, hb0, hrow0, hvf3, hls3⟩ := HP.out
            have HFT := Lib.hid (show ¬ F3 wr.heap.size from fun hk => absurd (hn0.foot hk) (Nat.lt_irrefl _))
            have HFOOT := Lib.hid (show ∀ k, F3 k → k < wr.heap.size from fun k hk => hn0.foot hk)
            have hn3 := hn0.alloc (.cells #[.int .u8 kd, .int .i64 q.src, .int .i64 q.dst, .slice Aq nq cq, .int .i64 num] 31)
            have hb3 := hb0.alloc hb0.size (.cells #[.int .u8 kd, .int .i64 q.src, .int .i64 q.dst, .slice Aq nq cq, .int .i64 num] 31)
            have hrow3 := hrow0.alloc (.cells #[.int .u8 kd, .int .i64 q.src, .int .i64 q.dst, .slice Aq nq cq, .int .i64 num] 31)
            have HN3 := Lib.hid hn3; have HF3 := Lib.hid hF3; have HB3 := Lib.hid hb3; have HROW3 := Lib.hid hrow3; have HVF3 := Lib.hid hvf3; have HLS3 := Lib.hid hls3
            have HVB := Lib.hid (show ∀ k, (Value.slice A2 m c2).ownBlock = some k → w.heap.size ≤ k from fun k hk => (hrow3.lt k hk).1)
            clear hn3 hF3 hb3 hrow3 hvf3 hls3 hn0 hb0 hrow0
            have hr4 : kd % 4 = 0 ∨ kd % 4 = 1 ∨ kd % 4 = 2 ∨ kd % 4 = 3 := by omega
            rcases hr4 with hr4 | hr4 | hr4 | hr4
            · as_aux_lemma =>
                have h40 : ((kd : Int) % 4 == 0) = true := by simp; omega
                clear hr4
                have hsd := send_any D w.heap.size F3 (pks ls) q Aq nq cq _ HN3.out (HRD.out.below HB3.out) HB3.out.size (by have := HRD.out.cap; omega) (by rw [pks_len]; have := HM.out; omega)
                have HSD := Lib.hid hsd
                clear hsd
                go_wp2_with fail
                refine HSD.out.mono ?_
                rintro e w5 ⟨rfl, F5, hn5, ht5, hs5⟩
                have hw5 : wr.heap.size < w5.heap.size := by have := ht5.size; simp at this; omega
                have v1 := (ht5.cell (p := ⟨wr.heap.size, 1, none⟩) (by simp) HFT.out).trans ((cellAt 1 (heapNew (w := wr) _)).trans (rfl : _ = some (Value.int .i64 q.src)))
                have v2 := (ht5.cell (p := ⟨wr.heap.size, 2, none⟩) (by simp) HFT.out).trans ((cellAt 2 (heapNew (w := wr) _)).trans (rfl : _ = some (Value.int .i64 q.dst)))
                have v3 := (ht5.cell (p := ⟨wr.heap.size, 3, none⟩) (by simp) HFT.out).trans ((cellAt 3 (heapNew (w := wr) _)).trans (rfl : _ = some (Value.slice Aq nq cq)))
                have hR5 := ownsRow_turned HROW3.out ht5 HVF3.out
                rw [HM.out] at hR5
                have HR5 := Lib.hid hR5
                have HB5 := Lib.hid (HB3.out.trans (ht5.below HB3.out.size HF3.out))
                have HN5 := Lib.hid (show NetAt w5 F5 D (pks (ls ++ [(q, Aq, nq, cq)])) by rw [pks_app]; exact hn5)
                have HF5 := Lib.hid (show ∀ k, F5 k → w.heap.size ≤ k from fun k hk => (hs5 k hk).elim (HF3.out k) (fun h => Nat.le_trans HB3.out.size h))
                have HV5 := Lib.hid (show ∀ k, (Value.slice A2 m c2).ownBlock = some k → w.heap.size ≤ k ∧ ¬ F5 k from fun k hk => ⟨HVB.out k hk, fun hf => (hs5 k hf).elim (HVF3.out k hk) (fun h => by have := (HROW3.out.lt k hk).2; omega)⟩)
                clear hn5 ht5 hs5 hR5
                go_wp2_with (at_builtin; go_must (refine wpList_append_lies _ rfl (.tmp 75) (.tmp 78) _ rfl w.heap.size 29 i0 _ 3 40 Try.underlying26 HI.out HZ0.out HZ1.out HZ2.out rfl (by omega) (.slice A2 m c2) m _ rfl (HR5.out.alloc _) ⟨w5.heap.size, 0, none⟩ 1 1 [.int .i64 q.src, .int .i64 q.dst, .slice Aq nq cq] rfl rfl (World.news_of_block (cs := #[.int .i64 q.src, .int .i64 q.dst, .slice Aq nq cq]) (t := 29) (fr := (0, 0)) (heap_alloc_new w5 _)) (by simp [Value.oneCell']) (by omega) (by simp only [maxLen]; omega) (by omega) (by have := HB5.out.size; simp; omega) (w5.heap.size + 1) (by simp) ?_))
                intro g9 cap9 w9 hown9 hgrow9 hat9 hlt9
                have hfin := Plays.grow (g := g9) (cap := cap9) (x := (q, Aq, nq, cq)) HN5.out HF5.out HB5.out (by rw [HM.out]; exact hown9) hgrow9 hat9 HV5.out HLS3.out ⟨HRD.out, hrc⟩
                rw [HM.out] at hfin
                have HFIN := Lib.hid hfin
                have HLEN := Lib.hid (show (ls ++ [(q, Aq, nq, cq)]).length = m + 1 by rw [List.length_append, HM.out]; rfl)
                clear hown9 hgrow9 hat9 hfin
                go_wp2
                go_meet
                case rel => exact ⟨m + 1, cap9, _, ls ++ [(q, Aq, nq, cq)], rfl, by omega, HLEN, HFIN⟩
            · as_aux_lemma =>
                have h40 : ((kd : Int) % 4 == 0) = false := by simp; omega
                have h41 : ((kd : Int) % 4 == 1) = true := by simp; omega
                have h42 : ((kd : Int) % 4 == 2) = false := by simp; omega
                clear hr4
                obtain ⟨N, rfl, hNm⟩ : ∃ N : Nat, num = (N : Int) ∧ N < m := by
                  have := HTH.out
                  rw [hth] at this
                  have h2 := this.symm
                  simp only [Bool.and_eq_true, decide_eq_true_eq] at h2
                  exact ⟨num.toNat, by omega, by omega⟩
                have hNl : N < ls.length := by have := HM.out; omega
                have hat := at_any D N F3 (pks ls) _ HN3.out (by rw [pks_len]; exact hNl) (by rw [pks_len]; have := HM.out; omega)
                rw [pks_at hNl] at hat
                have HAT := Lib.hid hat
                have HRX := Lib.hid (HLS3.out ls[N] (List.getElem_mem hNl)).1
                clear hat
                go_wp2_with fail
                refine HAT.out.mono ?_
                rintro e w6 ⟨g7, rfl, hown7, hb7⟩
                have hw6 : wr.heap.size < w6.heap.size := by have := hb7.size; simp at this; omega
                have z0 := (hb7.cell (p := ⟨wr.heap.size, 0, none⟩) (by simp)).trans ((cellAt 0 (heapNew (w := wr) _)).trans (rfl : _ = some (Value.int .u8 kd)))
                have z4 := (hb7.cell (p := ⟨wr.heap.size, 4, none⟩) (by simp)).trans ((cellAt 4 (heapNew (w := wr) _)).trans (rfl : _ = some (Value.int .i64 N)))
                obtain ⟨g9, hA9, hg9, hg9', k10, k11, k12⟩ := (HROW3.out.below hb7).look hNl
                have HB7 := Lib.hid (HB3.out.trans (hb7.mono HB3.out.size))
                have HRX7 := Lib.hid ((HRX.out.below HB7.out).more HB7.out.size)
                have HP7 := Lib.hid (HAL.out.below hb7)
                subst hA9
                clear HAT
                generalize ls[N] = x at *
                obtain ⟨q9, A9, n9, c9⟩ := x
                simp only at k10 k11 k12 HRX7 hown7
                rw [show pkVal (q9, A9, n9, c9).1 g7 = .agg #[.int .i64 q9.src, .int .i64 q9.dst, .slice (some ⟨g7, 0, none⟩) q9.data.length q9.data.length] from rfl]
                obtain ⟨A8, c8, hv8, hrd8⟩ := hown7.open_
                unfold slOf at hv8
                injection hv8 with e81 e82 e83
                subst e81 e83
                have HSM := Lib.hid (same_eq q9 _ _ _ _ _ _ w6.heap.size (w6.alloc (.cells #[.int .i64 q9.src, .int .i64 q9.dst, .slice (some ⟨g7, 0, none⟩) q9.data.length q9.data.length] 29)).drew ((hrd8.alloc (Nat.le_refl _) _).drew) ((HRX7.out.alloc (Nat.le_refl _) _).drew) (by simp))
                clear hown7 hb7 hrd8 e82
                generalize q9.data.length = l9 at *
                have hkk0 : (0 : Int) ≤ (N : Int) := by omega
                have hkk1 : (N : Int) < (m : Int) := by omega
                go_wp2_with fail
                refine wp_region_noPanic ?_
                refine wp_region_held_drew (S := (fun w' => w'.cell? ⟨w6.heap.size, 0, none⟩ = some (.int .i64 q9.src) ∧ w'.cell? ⟨w6.heap.size, 1, none⟩ = some (.int .i64 q9.dst) ∧ w'.cell? ⟨w6.heap.size, 2, none⟩ = some (.slice (some ⟨g7, 0, none⟩) l9 l9) ∧ w'.cell? ⟨g9, N * 3, none⟩ = some (.int .i64 q9.src) ∧ w'.cell? ⟨g9, N * 3 + 1, none⟩ = some (.int .i64 q9.dst) ∧ w'.cell? ⟨g9, N * 3 + 2, none⟩ = some (.slice A9 n9 c9) ∧ w'.cell? ⟨wr.heap.size, 4, none⟩ = some (.int .i64 N))) (by kernel_rfl) ?_ (fun hHeld => ?_)
                · exact ⟨(cellAt 0 (heapNew (w := w6) _)).trans rfl, (cellAt 1 (heapNew (w := w6) _)).trans rfl, (cellAt 2 (heapNew (w := w6) _)).trans rfl, (World.cell?_alloc_lt w6 _ _ hg9').trans k10, (World.cell?_alloc_lt w6 _ _ hg9').trans k11, (World.cell?_alloc_lt w6 _ _ hg9').trans k12, (World.cell?_alloc_lt w6 _ _ hw6).trans z4⟩
                refine wpAnyH_take (i := 0) (oi := ⟨some 101, _, _, _, _, _⟩) (v := ?_) rfl (by kernel_rfl) (by kernel_rfl) (by kernel_rfl) (fun _ _ _ h => h) (Or.inl ⟨by rfl, ?y0c⟩) hHeld ?r0c
                case y0c => ((intro w hSw; (try dsimp only at hSw); go_simp) <;> (try with_reducible rfl))
                try simp only [Act.put, List.setIfInBounds_toArray, List.set_cons_zero, List.set_cons_succ]
                refine wpAnyH_take (i := 1) (oi := ⟨some 102, _, _, _, _, _⟩) (v := ?_) rfl (by kernel_rfl) (by kernel_rfl) (by kernel_rfl) (fun _ _ _ h => h) (Or.inl ⟨by rfl, ?y1c⟩) hHeld ?r1c
                case y1c => ((intro w hSw; (try dsimp only at hSw); go_simp) <;> (try with_reducible rfl))
                try simp only [Act.put, List.setIfInBounds_toArray, List.set_cons_zero, List.set_cons_succ]
                refine wpAnyH_take (i := 2) (oi := ⟨some 103, _, _, _, _, _⟩) (v := ?_) rfl (by kernel_rfl) (by kernel_rfl) (by kernel_rfl) (fun _ _ _ h => h) (Or.inl ⟨by rfl, ?y2c⟩) hHeld ?r2c
                case y2c => ((intro w hSw; (try dsimp only at hSw); go_simp) <;> (try with_reducible rfl))
                try simp only [Act.put, List.setIfInBounds_toArray, List.set_cons_zero, List.set_cons_succ]
                refine wpAnyH_take (i := 3) (oi := ⟨some 104, _, _, _, _, _⟩) (v := ?_) rfl (by kernel_rfl) (by kernel_rfl) (by kernel_rfl) (fun _ _ _ h => h) (Or.inl ⟨by rfl, ?y3c⟩) hHeld ?r3c
                case y3c => ((intro w hSw; (try dsimp only at hSw); go_simp) <;> (try with_reducible rfl))
                try simp only [Act.put, List.setIfInBounds_toArray, List.set_cons_zero, List.set_cons_succ]
                refine wpAnyH_take (i := 4) (oi := ⟨some 105, _, _, _, _, _⟩) (v := ?_) rfl (by kernel_rfl) (by kernel_rfl) (by kernel_rfl) (fun _ _ _ h => h) (Or.inl ⟨by rfl, ?y4c⟩) hHeld ?r4c
                case y4c => ((intro w hSw; (try dsimp only at hSw); go_simp) <;> (try with_reducible rfl))
                try simp only [Act.put, List.setIfInBounds_toArray, List.set_cons_zero, List.set_cons_succ]
                refine wpAnyH_take (i := 5) (oi := ⟨some 106, _, _, _, _, _⟩) (v := ?_) rfl (by kernel_rfl) (by kernel_rfl) (by kernel_rfl) (fun _ _ _ h => h) (Or.inl ⟨by rfl, ?y5c⟩) hHeld ?r5c
                case y5c => ((intro w hSw; (try dsimp only at hSw); go_simp) <;> (try with_reducible rfl))
                try simp only [Act.put, List.setIfInBounds_toArray, List.set_cons_zero, List.set_cons_succ]
                refine wpAnyH_take (i := 6) (oi := ⟨some 107, _, _, _, _, _⟩) (v := ?_) rfl (by kernel_rfl) (by kernel_rfl) (by kernel_rfl) (fun _ _ _ h => h) (Or.inl ⟨by rfl, ?y6c⟩) hHeld ?r6c
                case y6c => ((intro w hSw; (try dsimp only at hSw); go_simp) <;> (try with_reducible rfl))
                try simp only [Act.put, List.setIfInBounds_toArray, List.set_cons_zero, List.set_cons_succ]
                refine wpAnyH_take (i := 7) (oi := ⟨some 108, _, _, _, _, _⟩) (v := ?_) rfl (by kernel_rfl) (by kernel_rfl) (by kernel_rfl) (fun _ _ _ h => h) (Or.inl ⟨by rfl, ?y7c⟩) hHeld ?r7c
                case y7c => ((intro w hSw; (try dsimp only at hSw); go_simp) <;> (try with_reducible rfl))
                try simp only [Act.put, List.setIfInBounds_toArray, List.set_cons_zero, List.set_cons_succ]
                refine wpAnyH_take (i := 8) (oi := ⟨some 109, _, _, _, _, _⟩) (v := undef) rfl (by kernel_rfl) (by kernel_rfl) (by kernel_rfl) (fun _ _ _ h => h) (Or.inr ⟨by rfl, rfl⟩) hHeld ?_
                try simp only [Act.put, List.setIfInBounds_toArray, List.set_cons_zero, List.set_cons_succ]
                refine wpAnyH_take (i := 9) (oi := ⟨some 110, _, _, _, _, _⟩) (v := undef) rfl (by kernel_rfl) (by kernel_rfl) (by kernel_rfl) (fun _ _ _ h => h) (Or.inr ⟨by rfl, rfl⟩) hHeld ?_
                try simp only [Act.put, List.setIfInBounds_toArray, List.set_cons_zero, List.set_cons_succ]
                refine wpAnyH_take (i := 10) (oi := ⟨some 111, _, _, _, _, _⟩) (v := undef) rfl (by kernel_rfl) (by kernel_rfl) (by kernel_rfl) (fun _ _ _ h => h) (Or.inr ⟨by rfl, rfl⟩) hHeld ?_
                try simp only [Act.put, List.setIfInBounds_toArray, List.set_cons_zero, List.set_cons_succ]
                refine wpAnyH_take (i := 11) (oi := ⟨some 112, _, _, _, _, _⟩) (v := undef) rfl (by kernel_rfl) (by kernel_rfl) (by kernel_rfl) (fun _ _ _ h => h) (Or.inr ⟨by rfl, rfl⟩) hHeld ?_
                try simp only [Act.put, List.setIfInBounds_toArray, List.set_cons_zero, List.set_cons_succ]
                refine wpAnyH_take (i := 12) (oi := ⟨some 113, _, _, _, _, _⟩) (v := undef) rfl (by kernel_rfl) (by kernel_rfl) (by kernel_rfl) (fun _ _ _ h => h) (Or.inr ⟨by rfl, rfl⟩) hHeld ?_
                try simp only [Act.put, List.setIfInBounds_toArray, List.set_cons_zero, List.set_cons_succ]
                refine wpAnyH_take (i := 13) (oi := ⟨some 114, _, _, _, _, _⟩) (v := undef) rfl (by kernel_rfl) (by kernel_rfl) (by kernel_rfl) (fun _ _ _ h => h) (Or.inr ⟨by rfl, rfl⟩) hHeld ?_
                try simp only [Act.put, List.setIfInBounds_toArray, List.set_cons_zero, List.set_cons_succ]
                refine wpAnyH_take (i := 14) (oi := ⟨some 115, _, _, _, _, _⟩) (v := undef) rfl (by kernel_rfl) (by kernel_rfl) (by kernel_rfl) (fun _ _ _ h => h) (Or.inr ⟨by rfl, rfl⟩) hHeld ?_
                try simp only [Act.put, List.setIfInBounds_toArray, List.set_cons_zero, List.set_cons_succ]
                refine wpAnyH_take (i := 15) (oi := ⟨some 116, _, _, _, _, _⟩) (v := undef) rfl (by kernel_rfl) (by kernel_rfl) (by kernel_rfl) (fun _ _ _ h => h) (Or.inr ⟨by rfl, rfl⟩) hHeld ?_
                try simp only [Act.put, List.setIfInBounds_toArray, List.set_cons_zero, List.set_cons_succ]
                refine wpAnyH_take (i := 16) (oi := ⟨some 117, _, _, _, _, _⟩) (v := ?_) rfl (by kernel_rfl) (by kernel_rfl) (by kernel_rfl) (fun _ _ _ h => h) (Or.inl ⟨by rfl, ?y16c⟩) hHeld ?r16c
                case y16c => ((intro w hSw; (try dsimp only at hSw); go_simp) <;> (try with_reducible rfl))
                try simp only [Act.put, List.setIfInBounds_toArray, List.set_cons_zero, List.set_cons_succ]
                refine wpAnyH_take (i := 17) (oi := ⟨some 118, _, _, _, _, _⟩) (v := ?_) rfl (by kernel_rfl) (by kernel_rfl) (by kernel_rfl) (fun _ _ _ h => h) (Or.inl ⟨by rfl, ?y17c⟩) hHeld ?r17c
                case y17c => ((intro w hSw; (try dsimp only at hSw); go_simp) <;> (try with_reducible rfl))
                try simp only [Act.put, List.setIfInBounds_toArray, List.set_cons_zero, List.set_cons_succ]
                refine wpAnyH_take (i := 18) (oi := ⟨some 119, _, _, _, _, _⟩) (v := ?_) rfl (by kernel_rfl) (by kernel_rfl) (by kernel_rfl) (fun _ _ _ h => h) (Or.inl ⟨by rfl, ?y18c⟩) hHeld ?r18c
                case y18c => ((intro w hSw; (try dsimp only at hSw); go_simp) <;> (try with_reducible rfl))
                try simp only [Act.put, List.setIfInBounds_toArray, List.set_cons_zero, List.set_cons_succ]
                refine wpAnyH_take (i := 19) (oi := ⟨some 120, _, _, _, _, _⟩) (v := ?_) rfl (by kernel_rfl) (by kernel_rfl) (by kernel_rfl) (fun _ _ _ h => h) (Or.inl ⟨by rfl, ?y19c⟩) hHeld ?r19c
                case y19c => ((intro w hSw; (try dsimp only at hSw); go_simp) <;> (try with_reducible rfl))
                try simp only [Act.put, List.setIfInBounds_toArray, List.set_cons_zero, List.set_cons_succ]
                refine wpAnyH_take (i := 20) (oi := ⟨some 121, _, _, _, _, _⟩) (v := ?_) rfl (by kernel_rfl) (by kernel_rfl) (by kernel_rfl) (fun _ _ _ h => h) (Or.inl ⟨by rfl, ?y20c⟩) hHeld ?r20c
                case y20c => ((intro w hSw; (try dsimp only at hSw); go_simp) <;> (try with_reducible rfl))
                try simp only [Act.put, List.setIfInBounds_toArray, List.set_cons_zero, List.set_cons_succ]
                refine wpAnyH_take (i := 21) (oi := ⟨some 122, _, _, _, _, _⟩) (v := ?_) rfl (by kernel_rfl) (by kernel_rfl) (by kernel_rfl) (fun _ _ _ h => h) (Or.inl ⟨by rfl, ?y21c⟩) hHeld ?r21c
                case y21c => ((intro w hSw; (try dsimp only at hSw); go_simp) <;> (try with_reducible rfl))
                try simp only [Act.put, List.setIfInBounds_toArray, List.set_cons_zero, List.set_cons_succ]
                refine wpAnyH_take (i := 22) (oi := ⟨some 123, _, _, _, _, _⟩) (v := ?_) rfl (by kernel_rfl) (by kernel_rfl) (by kernel_rfl) (fun _ _ _ h => h) (Or.inl ⟨by rfl, ?y22c⟩) hHeld ?r22c
                case y22c => ((intro w hSw; (try dsimp only at hSw); go_simp) <;> (try with_reducible rfl))
                try simp only [Act.put, List.setIfInBounds_toArray, List.set_cons_zero, List.set_cons_succ]
                refine wpAnyH_take (i := 23) (oi := ⟨some 124, _, _, _, _, _⟩) (v := ?_) rfl (by kernel_rfl) (by kernel_rfl) (by kernel_rfl) (fun _ _ _ h => h) (Or.inl ⟨by rfl, ?y23c⟩) hHeld ?r23c
                case y23c => ((intro w hSw; (try dsimp only at hSw); go_simp) <;> (try with_reducible rfl))
                try simp only [Act.put, List.setIfInBounds_toArray, List.set_cons_zero, List.set_cons_succ]
                refine wpAnyH_take (i := 24) (oi := ⟨some 125, _, _, _, _, _⟩) (v := ?_) rfl (by kernel_rfl) (by kernel_rfl) (by kernel_rfl) (fun _ _ _ h => h) (Or.inl ⟨by rfl, ?y24c⟩) hHeld ?r24c
                case y24c => ((intro w hSw; (try dsimp only at hSw); go_simp) <;> (try with_reducible rfl))
                try simp only [Act.put, List.setIfInBounds_toArray, List.set_cons_zero, List.set_cons_succ]
                refine wpAnyH_take (i := 25) (oi := ⟨some 126, _, _, _, _, _⟩) (v := ?_) rfl (by kernel_rfl) (by kernel_rfl) (by kernel_rfl) (fun _ _ _ h => h) (Or.inl ⟨by rfl, ?y25c⟩) hHeld ?r25c
                case y25c => ((intro w hSw; (try dsimp only at hSw); go_simp) <;> (try with_reducible rfl))
                try simp only [Act.put, List.setIfInBounds_toArray, List.set_cons_zero, List.set_cons_succ]
                refine wpAnyH_take (i := 26) (oi := ⟨some 127, _, _, _, _, _⟩) (v := ?_) rfl (by kernel_rfl) (by kernel_rfl) (by kernel_rfl) (fun _ _ _ h => h) (Or.inl ⟨by rfl, ?y26c⟩) hHeld ?r26c
                case y26c => ((intro w hSw; (try dsimp only at hSw); go_simp) <;> (try with_reducible rfl))
                try simp only [Act.put, List.setIfInBounds_toArray, List.set_cons_zero, List.set_cons_succ]
                refine wpAnyH_ready (rs := [27]) (by kernel_rfl) (by simp) ?_
                refine AllReadyH.cons (o := ⟨some 128, _, _, _, _, _⟩) rfl (fun K hK => ?_) AllReadyH.nil
                go_simp
                refine HSM.out.mono ?_
                rintro e w8 ⟨rfl, hb8⟩
                have y0 := (hb8.cell (p := ⟨w6.heap.size, 0, none⟩) (by simp)).trans ((cellAt 0 (heapNew (w := w6) _)).trans (rfl : _ = some (Value.int .i64 q9.src)))
                have y1 := (hb8.cell (p := ⟨w6.heap.size, 1, none⟩) (by simp)).trans ((cellAt 1 (heapNew (w := w6) _)).trans (rfl : _ = some (Value.int .i64 q9.dst)))
                have y2 := (hb8.cell (p := ⟨w6.heap.size, 2, none⟩) (by simp)).trans ((cellAt 2 (heapNew (w := w6) _)).trans (rfl : _ = some (Value.slice (some ⟨g7, 0, none⟩) l9 l9)))
                have y3 := (hb8.cell (p := ⟨g9, N * 3, none⟩) (by simp; omega)).trans ((World.cell?_alloc_lt w6 _ _ hg9').trans k10)
                have y4 := (hb8.cell (p := ⟨g9, N * 3 + 1, none⟩) (by simp; omega)).trans ((World.cell?_alloc_lt w6 _ _ hg9').trans k11)
                have y5 := (hb8.cell (p := ⟨g9, N * 3 + 2, none⟩) (by simp; omega)).trans ((World.cell?_alloc_lt w6 _ _ hg9').trans k12)
                have y6 := (hb8.cell (p := ⟨wr.heap.size, 0, none⟩) (by simp; omega)).trans ((World.cell?_alloc_lt w6 _ _ hw6).trans z0)
                have y7 := (hb8.cell (p := ⟨wr.heap.size, 4, none⟩) (by simp; omega)).trans ((World.cell?_alloc_lt w6 _ _ hw6).trans z4)
                have HB8 := Lib.hid hb8
                clear hb8
                refine hK.out _ _ ?_ (fun hHeld => ?_)
                · exact ⟨y0, y1, y2, y3, y4, y5, y7⟩
                clear hK K
                try simp only [Act.put, List.setIfInBounds_toArray, List.set_cons_zero, List.set_cons_succ]
                refine wpAnyH_take (i := 28) (oi := ⟨some 129, _, _, _, _, _⟩) (v := ?_) rfl (by kernel_rfl) (by kernel_rfl) (by kernel_rfl) (fun _ _ _ h => h) (Or.inl ⟨by rfl, ?y28c⟩) hHeld ?r28c
                case y28c => ((intro w hSw; (try dsimp only at hSw); go_simp) <;> (try with_reducible rfl))
                try simp only [Act.put, List.setIfInBounds_toArray, List.set_cons_zero, List.set_cons_succ]
                refine wpAnyH_take (i := 29) (oi := ⟨some 130, _, _, _, _, _⟩) (v := ?_) rfl (by kernel_rfl) (by kernel_rfl) (by kernel_rfl) (fun _ _ _ h => h) (Or.inl ⟨by rfl, ?y29c⟩) hHeld ?r29c
                case y29c => ((intro w hSw; (try dsimp only at hSw); go_simp) <;> (try with_reducible rfl))
                try simp only [Act.put, List.setIfInBounds_toArray, List.set_cons_zero, List.set_cons_succ]
                refine wpAnyH_take (i := 30) (oi := ⟨some 131, _, _, _, _, _⟩) (v := ?_) rfl (by kernel_rfl) (by kernel_rfl) (by kernel_rfl) (fun _ _ _ h => h) (Or.inl ⟨by rfl, ?y30c⟩) hHeld ?r30c
                case y30c => ((intro w hSw; (try dsimp only at hSw); go_simp) <;> (try with_reducible rfl))
                try simp only [Act.put, List.setIfInBounds_toArray, List.set_cons_zero, List.set_cons_succ]
                refine wpAnyH_done (by kernel_rfl) ?_ _
                refine NoPanic.normal ?_
                have HP8 := Lib.hid ((HP7.out.alloc _).drew.below HB8.out)
                go_wp2
                go_meet
                case rel => exact ⟨m, c2, _, ls, rfl, by omega, HM, HP8⟩
            · as_aux_lemma =>
                have h40 : ((kd : Int) % 4 == 0) = false := by simp; omega
                have h41 : ((kd : Int) % 4 == 1) = false := by simp; omega
                have h42 : ((kd : Int) % 4 == 2) = true := by simp; omega
                clear hr4
                obtain ⟨N, rfl, hNm⟩ : ∃ N : Nat, num = (N : Int) ∧ N < m := by
                  have := HTH.out
                  rw [hth] at this
                  have h2 := this.symm
                  simp only [Bool.and_eq_true, decide_eq_true_eq] at h2
                  exact ⟨num.toNat, by omega, by omega⟩
                have hNl : N < ls.length := by have := HM.out; omega
                have hat := at_any D N F3 (pks ls) _ HN3.out (by rw [pks_len]; exact hNl) (by rw [pks_len]; have := HM.out; omega)
                rw [pks_at hNl] at hat
                have HAT := Lib.hid hat
                have HRX := Lib.hid (HLS3.out ls[N] (List.getElem_mem hNl)).1
                clear hat
                go_wp2_with fail
                refine HAT.out.mono ?_
                rintro e w6 ⟨g7, rfl, hown7, hb7⟩
                have hw6 : wr.heap.size < w6.heap.size := by have := hb7.size; simp at this; omega
                have z0 := (hb7.cell (p := ⟨wr.heap.size, 0, none⟩) (by simp)).trans ((cellAt 0 (heapNew (w := wr) _)).trans (rfl : _ = some (Value.int .u8 kd)))
                have z4 := (hb7.cell (p := ⟨wr.heap.size, 4, none⟩) (by simp)).trans ((cellAt 4 (heapNew (w := wr) _)).trans (rfl : _ = some (Value.int .i64 N)))
                have HB7 := Lib.hid (HB3.out.trans (hb7.mono HB3.out.size))
                have HROW6 := Lib.hid (HROW3.out.below hb7)
                have htk := take_any D N F3 (pks ls) (w6.alloc (.cells #[.int .i64 ls[N].1.src, .int .i64 ls[N].1.dst, .slice (some ⟨g7, 0, none⟩) ls[N].1.data.length ls[N].1.data.length] 29)) ((HN3.out.below hb7).alloc _) (by rw [pks_len]; exact hNl) (by rw [pks_len]; have := HM.out; omega)
                rw [pks_at hNl, ← pks_erase] at htk
                have HTK := Lib.hid htk
                have HFV := Lib.hid (show ¬ F3 w6.heap.size from fun hf => by have := HFOOT.out _ hf; omega)
                have HFA := Lib.hid (show ¬ F3 wr.heap.size from HFT.out)
                rw [show pkVal ls[N].1 g7 = .agg #[.int .i64 ls[N].1.src, .int .i64 ls[N].1.dst, .slice (some ⟨g7, 0, none⟩) ls[N].1.data.length ls[N].1.data.length] from rfl]
                have HLKX := Lib.hid (fun (wy : World) (hr : LRow wy w.heap.size (.slice A2 m c2) ls) => hr.look hNl)
                clear hown7 hb7 HAT htk
                generalize ls[N] = x at *
                obtain ⟨q9, A9, n9, c9⟩ := x
                simp only at HTK HRX HLKX ⊢
                generalize hl9 : q9.data.length = l9 at *
                have HL9 := Lib.hid hl9
                clear hl9
                go_wp2_with fail
                refine HTK.out.mono ?_
                rintro e w7 ⟨A7, c7, rfl, hown8, F7, hnet7, hsub7, hnb7, ht7⟩
                have hw7 : w6.heap.size < w7.heap.size := by have := ht7.size; simp at this; omega
                have hV := (ht7.block w6.heap.size (by simp) HFV.out).trans (heapNew (w := w6) _)
                have v0 := (cellAt 0 hV).trans (rfl : _ = some (Value.int .i64 q9.src))
                have v1 := (cellAt 1 hV).trans (rfl : _ = some (Value.int .i64 q9.dst))
                have v2 := (cellAt 2 hV).trans (rfl : _ = some (Value.slice (some ⟨g7, 0, none⟩) l9 l9))
                have f0 := freeAt 0 hV; have f1 := freeAt 1 hV; have f2 := freeAt 2 hV
                rw [HL9.out] at hown8 hnb7
                rw [HL9.out]
                obtain ⟨w9, hw9⟩ : ∃ x, x = ((w7.setCell ⟨w6.heap.size, 0, none⟩ (.int .i64 q9.src)).setCell ⟨w6.heap.size, 1, none⟩ (.int .i64 q9.dst)).setCell ⟨w6.heap.size, 2, none⟩ (.slice A7 l9 c7) := ⟨_, rfl⟩
                have HV9 := Lib.hid (show w9.heap[w6.heap.size]? = some (.cells #[.int .i64 q9.src, .int .i64 q9.dst, .slice A7 l9 c7] 29 (0, 0)) by rw [hw9]; exact (set3 _ _ _ hV).2.2.2)
                have hT9 : Turned (· = w6.heap.size) w7 w9 := by rw [hw9]; exact (((Turned.refl (· = w6.heap.size) w7).setCell (p := ⟨w6.heap.size, 0, none⟩) (.inl rfl) _).setCell (p := ⟨w6.heap.size, 1, none⟩) (.inl rfl) _).setCell (p := ⟨w6.heap.size, 2, none⟩) (.inl rfl) _
                have hw9s : w6.heap.size < w9.heap.size := heapLt HV9.out
                have hrow7 : LRow w7 w.heap.size (.slice A2 m c2) ls := ownsRow_turned (HROW6.out.alloc _) ht7 HVF3.out
                have hrow9 : LRow w9 w.heap.size (.slice A2 m c2) ls := ownsRow_turned hrow7 hT9 (fun k hk e => by have := (HROW6.out.lt k hk).2; omega)
                have z49 : w9.cell? ⟨wr.heap.size, 4, none⟩ = some (.int .i64 N) := (hT9.cell (p := ⟨wr.heap.size, 4, none⟩) (by show wr.heap.size < w7.heap.size; omega) (fun e => by have e : wr.heap.size = w6.heap.size := e; omega)).trans ((ht7.cell (p := ⟨wr.heap.size, 4, none⟩) (by simp; omega) HFA.out).trans ((World.cell?_alloc_lt w6 _ _ hw6).trans z4))
                have z09 : w9.cell? ⟨wr.heap.size, 0, none⟩ = some (.int .u8 kd) := (hT9.cell (p := ⟨wr.heap.size, 0, none⟩) (by show wr.heap.size < w7.heap.size; omega) (fun e => by have e : wr.heap.size = w6.heap.size := e; omega)).trans ((ht7.cell (p := ⟨wr.heap.size, 0, none⟩) (by simp; omega) HFA.out).trans ((World.cell?_alloc_lt w6 _ _ hw6).trans z0))
                obtain ⟨g9, hA9, hg9, hg9', k10, k11, k12⟩ := HLKX.out w9 hrow9
                have HB9 := Lib.hid (show Below w.heap.size w w9 from ((HB7.out.alloc HB7.out.size _).trans (ht7.below (by have := HB7.out.size; simp; omega) HF3.out)).trans (hT9.below (by have := HB7.out.size; omega) (fun k hk => by have := HB7.out.size; omega)))
                have hown9 : Own w9 0 5 (.slice A7 l9 c7) q9.data := hown8.turned hT9 (fun k hk e => HFV.out (by rw [← e]; exact (hnb7 k hk).1))
                obtain ⟨A8, c8, hv8, hrd8⟩ := hown9.open_
                rw [HL9.out] at hv8 hrd8
                injection hv8 with e81 e82 e83
                subst e81 e83
                have HNET9 := Lib.hid (hnet7.far hT9 (fun k hk e => HFV.out (by rw [← e]; exact hsub7 k hk)))
                have HF7 := Lib.hid (show ∀ k, F7 k → w.heap.size ≤ k from fun k hk => HF3.out k (hsub7 k hk))
                have HROW9 := Lib.hid hrow9
                subst hA9
                have HSM := Lib.hid (same_eq q9 A7 A9 l9 c7 n9 c9 w9.heap.size w9.drew hrd8.drew ((HRX.out.below HB9.out).more HB9.out.size).drew (Nat.le_refl _))
                have HW9 := Lib.hid hw9
                clear hown8 hnet7 hsub7 hnb7 ht7 hV hT9 hrow7 hrow9 hown9 hrd8 e82 hw9 HTK HLKX
                have hkk0 : (0 : Int) ≤ (N : Int) := by omega
                have hkk1 : (N : Int) < (m : Int) := by omega
                go_wp2_with fail
                rw [← HW9.out]
                refine wp_region_noPanic ?_
                refine wp_region_held_drew (S := (fun w' => w'.cell? ⟨w6.heap.size, 0, none⟩ = some (.int .i64 q9.src) ∧ w'.cell? ⟨w6.heap.size, 1, none⟩ = some (.int .i64 q9.dst) ∧ w'.cell? ⟨w6.heap.size, 2, none⟩ = some (.slice A7 l9 c7) ∧ w'.cell? ⟨g9, N * 3, none⟩ = some (.int .i64 q9.src) ∧ w'.cell? ⟨g9, N * 3 + 1, none⟩ = some (.int .i64 q9.dst) ∧ w'.cell? ⟨g9, N * 3 + 2, none⟩ = some (.slice A9 n9 c9) ∧ w'.cell? ⟨wr.heap.size, 4, none⟩ = some (.int .i64 N))) (by kernel_rfl) ?_ (fun hHeld => ?_)
                · exact ⟨(cellAt 0 HV9.out).trans rfl, (cellAt 1 HV9.out).trans rfl, (cellAt 2 HV9.out).trans rfl, k10, k11, k12, z49⟩
                refine wpAnyH_take (i := 0) (oi := ⟨some 101, _, _, _, _, _⟩) (v := ?_) rfl (by kernel_rfl) (by kernel_rfl) (by kernel_rfl) (fun _ _ _ h => h) (Or.inl ⟨by rfl, ?y0e⟩) hHeld ?r0e
                case y0e => ((intro w hSw; (try dsimp only at hSw); go_simp) <;> (try with_reducible rfl))
                try simp only [Act.put, List.setIfInBounds_toArray, List.set_cons_zero, List.set_cons_succ]
                refine wpAnyH_take (i := 1) (oi := ⟨some 102, _, _, _, _, _⟩) (v := ?_) rfl (by kernel_rfl) (by kernel_rfl) (by kernel_rfl) (fun _ _ _ h => h) (Or.inl ⟨by rfl, ?y1e⟩) hHeld ?r1e
                case y1e => ((intro w hSw; (try dsimp only at hSw); go_simp) <;> (try with_reducible rfl))
                try simp only [Act.put, List.setIfInBounds_toArray, List.set_cons_zero, List.set_cons_succ]
                refine wpAnyH_take (i := 2) (oi := ⟨some 103, _, _, _, _, _⟩) (v := ?_) rfl (by kernel_rfl) (by kernel_rfl) (by kernel_rfl) (fun _ _ _ h => h) (Or.inl ⟨by rfl, ?y2e⟩) hHeld ?r2e
                case y2e => ((intro w hSw; (try dsimp only at hSw); go_simp) <;> (try with_reducible rfl))
                try simp only [Act.put, List.setIfInBounds_toArray, List.set_cons_zero, List.set_cons_succ]
                refine wpAnyH_take (i := 3) (oi := ⟨some 104, _, _, _, _, _⟩) (v := ?_) rfl (by kernel_rfl) (by kernel_rfl) (by kernel_rfl) (fun _ _ _ h => h) (Or.inl ⟨by rfl, ?y3e⟩) hHeld ?r3e
                case y3e => ((intro w hSw; (try dsimp only at hSw); go_simp) <;> (try with_reducible rfl))
                try simp only [Act.put, List.setIfInBounds_toArray, List.set_cons_zero, List.set_cons_succ]
                refine wpAnyH_take (i := 4) (oi := ⟨some 105, _, _, _, _, _⟩) (v := ?_) rfl (by kernel_rfl) (by kernel_rfl) (by kernel_rfl) (fun _ _ _ h => h) (Or.inl ⟨by rfl, ?y4e⟩) hHeld ?r4e
                case y4e => ((intro w hSw; (try dsimp only at hSw); go_simp) <;> (try with_reducible rfl))
                try simp only [Act.put, List.setIfInBounds_toArray, List.set_cons_zero, List.set_cons_succ]
                refine wpAnyH_take (i := 5) (oi := ⟨some 106, _, _, _, _, _⟩) (v := ?_) rfl (by kernel_rfl) (by kernel_rfl) (by kernel_rfl) (fun _ _ _ h => h) (Or.inl ⟨by rfl, ?y5e⟩) hHeld ?r5e
                case y5e => ((intro w hSw; (try dsimp only at hSw); go_simp) <;> (try with_reducible rfl))
                try simp only [Act.put, List.setIfInBounds_toArray, List.set_cons_zero, List.set_cons_succ]
                refine wpAnyH_take (i := 6) (oi := ⟨some 107, _, _, _, _, _⟩) (v := ?_) rfl (by kernel_rfl) (by kernel_rfl) (by kernel_rfl) (fun _ _ _ h => h) (Or.inl ⟨by rfl, ?y6e⟩) hHeld ?r6e
                case y6e => ((intro w hSw; (try dsimp only at hSw); go_simp) <;> (try with_reducible rfl))
                try simp only [Act.put, List.setIfInBounds_toArray, List.set_cons_zero, List.set_cons_succ]
                refine wpAnyH_take (i := 7) (oi := ⟨some 108, _, _, _, _, _⟩) (v := ?_) rfl (by kernel_rfl) (by kernel_rfl) (by kernel_rfl) (fun _ _ _ h => h) (Or.inl ⟨by rfl, ?y7e⟩) hHeld ?r7e
                case y7e => ((intro w hSw; (try dsimp only at hSw); go_simp) <;> (try with_reducible rfl))
                try simp only [Act.put, List.setIfInBounds_toArray, List.set_cons_zero, List.set_cons_succ]
                refine wpAnyH_take (i := 8) (oi := ⟨some 109, _, _, _, _, _⟩) (v := undef) rfl (by kernel_rfl) (by kernel_rfl) (by kernel_rfl) (fun _ _ _ h => h) (Or.inr ⟨by rfl, rfl⟩) hHeld ?_
                try simp only [Act.put, List.setIfInBounds_toArray, List.set_cons_zero, List.set_cons_succ]
                refine wpAnyH_take (i := 9) (oi := ⟨some 110, _, _, _, _, _⟩) (v := undef) rfl (by kernel_rfl) (by kernel_rfl) (by kernel_rfl) (fun _ _ _ h => h) (Or.inr ⟨by rfl, rfl⟩) hHeld ?_
                try simp only [Act.put, List.setIfInBounds_toArray, List.set_cons_zero, List.set_cons_succ]
                refine wpAnyH_take (i := 10) (oi := ⟨some 111, _, _, _, _, _⟩) (v := undef) rfl (by kernel_rfl) (by kernel_rfl) (by kernel_rfl) (fun _ _ _ h => h) (Or.inr ⟨by rfl, rfl⟩) hHeld ?_
                try simp only [Act.put, List.setIfInBounds_toArray, List.set_cons_zero, List.set_cons_succ]
                refine wpAnyH_take (i := 11) (oi := ⟨some 112, _, _, _, _, _⟩) (v := undef) rfl (by kernel_rfl) (by kernel_rfl) (by kernel_rfl) (fun _ _ _ h => h) (Or.inr ⟨by rfl, rfl⟩) hHeld ?_
                try simp only [Act.put, List.setIfInBounds_toArray, List.set_cons_zero, List.set_cons_succ]
                refine wpAnyH_take (i := 12) (oi := ⟨some 113, _, _, _, _, _⟩) (v := undef) rfl (by kernel_rfl) (by kernel_rfl) (by kernel_rfl) (fun _ _ _ h => h) (Or.inr ⟨by rfl, rfl⟩) hHeld ?_
                try simp only [Act.put, List.setIfInBounds_toArray, List.set_cons_zero, List.set_cons_succ]
                refine wpAnyH_take (i := 13) (oi := ⟨some 114, _, _, _, _, _⟩) (v := undef) rfl (by kernel_rfl) (by kernel_rfl) (by kernel_rfl) (fun _ _ _ h => h) (Or.inr ⟨by rfl, rfl⟩) hHeld ?_
                try simp only [Act.put, List.setIfInBounds_toArray, List.set_cons_zero, List.set_cons_succ]
                refine wpAnyH_take (i := 14) (oi := ⟨some 115, _, _, _, _, _⟩) (v := undef) rfl (by kernel_rfl) (by kernel_rfl) (by kernel_rfl) (fun _ _ _ h => h) (Or.inr ⟨by rfl, rfl⟩) hHeld ?_
                try simp only [Act.put, List.setIfInBounds_toArray, List.set_cons_zero, List.set_cons_succ]
                refine wpAnyH_take (i := 15) (oi := ⟨some 116, _, _, _, _, _⟩) (v := undef) rfl (by kernel_rfl) (by kernel_rfl) (by kernel_rfl) (fun _ _ _ h => h) (Or.inr ⟨by rfl, rfl⟩) hHeld ?_
                try simp only [Act.put, List.setIfInBounds_toArray, List.set_cons_zero, List.set_cons_succ]
                refine wpAnyH_take (i := 16) (oi := ⟨some 117, _, _, _, _, _⟩) (v := ?_) rfl (by kernel_rfl) (by kernel_rfl) (by kernel_rfl) (fun _ _ _ h => h) (Or.inl ⟨by rfl, ?y16e⟩) hHeld ?r16e
                case y16e => ((intro w hSw; (try dsimp only at hSw); go_simp) <;> (try with_reducible rfl))
                try simp only [Act.put, List.setIfInBounds_toArray, List.set_cons_zero, List.set_cons_succ]
                refine wpAnyH_take (i := 17) (oi := ⟨some 118, _, _, _, _, _⟩) (v := ?_) rfl (by kernel_rfl) (by kernel_rfl) (by kernel_rfl) (fun _ _ _ h => h) (Or.inl ⟨by rfl, ?y17e⟩) hHeld ?r17e
                case y17e => ((intro w hSw; (try dsimp only at hSw); go_simp) <;> (try with_reducible rfl))
                try simp only [Act.put, List.setIfInBounds_toArray, List.set_cons_zero, List.set_cons_succ]
                refine wpAnyH_take (i := 18) (oi := ⟨some 119, _, _, _, _, _⟩) (v := ?_) rfl (by kernel_rfl) (by kernel_rfl) (by kernel_rfl) (fun _ _ _ h => h) (Or.inl ⟨by rfl, ?y18e⟩) hHeld ?r18e
                case y18e => ((intro w hSw; (try dsimp only at hSw); go_simp) <;> (try with_reducible rfl))
                try simp only [Act.put, List.setIfInBounds_toArray, List.set_cons_zero, List.set_cons_succ]
                refine wpAnyH_take (i := 19) (oi := ⟨some 120, _, _, _, _, _⟩) (v := ?_) rfl (by kernel_rfl) (by kernel_rfl) (by kernel_rfl) (fun _ _ _ h => h) (Or.inl ⟨by rfl, ?y19e⟩) hHeld ?r19e
                case y19e => ((intro w hSw; (try dsimp only at hSw); go_simp) <;> (try with_reducible rfl))
                try simp only [Act.put, List.setIfInBounds_toArray, List.set_cons_zero, List.set_cons_succ]
                refine wpAnyH_take (i := 20) (oi := ⟨some 121, _, _, _, _, _⟩) (v := ?_) rfl (by kernel_rfl) (by kernel_rfl) (by kernel_rfl) (fun _ _ _ h => h) (Or.inl ⟨by rfl, ?y20e⟩) hHeld ?r20e
                case y20e => ((intro w hSw; (try dsimp only at hSw); go_simp) <;> (try with_reducible rfl))
                try simp only [Act.put, List.setIfInBounds_toArray, List.set_cons_zero, List.set_cons_succ]
                refine wpAnyH_take (i := 21) (oi := ⟨some 122, _, _, _, _, _⟩) (v := ?_) rfl (by kernel_rfl) (by kernel_rfl) (by kernel_rfl) (fun _ _ _ h => h) (Or.inl ⟨by rfl, ?y21e⟩) hHeld ?r21e
                case y21e => ((intro w hSw; (try dsimp only at hSw); go_simp) <;> (try with_reducible rfl))
                try simp only [Act.put, List.setIfInBounds_toArray, List.set_cons_zero, List.set_cons_succ]
                refine wpAnyH_take (i := 22) (oi := ⟨some 123, _, _, _, _, _⟩) (v := ?_) rfl (by kernel_rfl) (by kernel_rfl) (by kernel_rfl) (fun _ _ _ h => h) (Or.inl ⟨by rfl, ?y22e⟩) hHeld ?r22e
                case y22e => ((intro w hSw; (try dsimp only at hSw); go_simp) <;> (try with_reducible rfl))
                try simp only [Act.put, List.setIfInBounds_toArray, List.set_cons_zero, List.set_cons_succ]
                refine wpAnyH_take (i := 23) (oi := ⟨some 124, _, _, _, _, _⟩) (v := ?_) rfl (by kernel_rfl) (by kernel_rfl) (by kernel_rfl) (fun _ _ _ h => h) (Or.inl ⟨by rfl, ?y23e⟩) hHeld ?r23e
                case y23e => ((intro w hSw; (try dsimp only at hSw); go_simp) <;> (try with_reducible rfl))
                try simp only [Act.put, List.setIfInBounds_toArray, List.set_cons_zero, List.set_cons_succ]
                refine wpAnyH_take (i := 24) (oi := ⟨some 125, _, _, _, _, _⟩) (v := ?_) rfl (by kernel_rfl) (by kernel_rfl) (by kernel_rfl) (fun _ _ _ h => h) (Or.inl ⟨by rfl, ?y24e⟩) hHeld ?r24e
                case y24e => ((intro w hSw; (try dsimp only at hSw); go_simp) <;> (try with_reducible rfl))
                try simp only [Act.put, List.setIfInBounds_toArray, List.set_cons_zero, List.set_cons_succ]
                refine wpAnyH_take (i := 25) (oi := ⟨some 126, _, _, _, _, _⟩) (v := ?_) rfl (by kernel_rfl) (by kernel_rfl) (by kernel_rfl) (fun _ _ _ h => h) (Or.inl ⟨by rfl, ?y25e⟩) hHeld ?r25e
                case y25e => ((intro w hSw; (try dsimp only at hSw); go_simp) <;> (try with_reducible rfl))
                try simp only [Act.put, List.setIfInBounds_toArray, List.set_cons_zero, List.set_cons_succ]
                refine wpAnyH_take (i := 26) (oi := ⟨some 127, _, _, _, _, _⟩) (v := ?_) rfl (by kernel_rfl) (by kernel_rfl) (by kernel_rfl) (fun _ _ _ h => h) (Or.inl ⟨by rfl, ?y26e⟩) hHeld ?r26e
                case y26e => ((intro w hSw; (try dsimp only at hSw); go_simp) <;> (try with_reducible rfl))
                try simp only [Act.put, List.setIfInBounds_toArray, List.set_cons_zero, List.set_cons_succ]
                refine wpAnyH_ready (rs := [27]) (by kernel_rfl) (by simp) ?_
                refine AllReadyH.cons (o := ⟨some 128, _, _, _, _, _⟩) rfl (fun K hK => ?_) AllReadyH.nil
                go_simp
                refine HSM.out.mono ?_
                rintro e w8 ⟨rfl, hb8⟩
                have y0 := (hb8.cell (p := ⟨w6.heap.size, 0, none⟩) hw9s).trans ((cellAt 0 HV9.out).trans (rfl : _ = some (Value.int .i64 q9.src)))
                have y1 := (hb8.cell (p := ⟨w6.heap.size, 1, none⟩) hw9s).trans ((cellAt 1 HV9.out).trans (rfl : _ = some (Value.int .i64 q9.dst)))
                have y2 := (hb8.cell (p := ⟨w6.heap.size, 2, none⟩) hw9s).trans ((cellAt 2 HV9.out).trans (rfl : _ = some (Value.slice A7 l9 c7)))
                have y3 := (hb8.cell (p := ⟨g9, N * 3, none⟩) hg9').trans k10
                have y4 := (hb8.cell (p := ⟨g9, N * 3 + 1, none⟩) hg9').trans k11
                have y5 := (hb8.cell (p := ⟨g9, N * 3 + 2, none⟩) hg9').trans k12
                have y6 := (hb8.cell (p := ⟨wr.heap.size, 0, none⟩) (by show wr.heap.size < w9.heap.size; omega)).trans z09
                have y7 := (hb8.cell (p := ⟨wr.heap.size, 4, none⟩) (by show wr.heap.size < w9.heap.size; omega)).trans z49
                have HB8 := Lib.hid hb8
                clear hb8
                refine hK.out _ _ ?_ (fun hHeld => ?_)
                · exact ⟨y0, y1, y2, y3, y4, y5, y7⟩
                clear hK K
                try simp only [Act.put, List.setIfInBounds_toArray, List.set_cons_zero, List.set_cons_succ]
                refine wpAnyH_take (i := 28) (oi := ⟨some 129, _, _, _, _, _⟩) (v := ?_) rfl (by kernel_rfl) (by kernel_rfl) (by kernel_rfl) (fun _ _ _ h => h) (Or.inl ⟨by rfl, ?y28e⟩) hHeld ?r28e
                case y28e => ((intro w hSw; (try dsimp only at hSw); go_simp) <;> (try with_reducible rfl))
                try simp only [Act.put, List.setIfInBounds_toArray, List.set_cons_zero, List.set_cons_succ]
                refine wpAnyH_take (i := 29) (oi := ⟨some 130, _, _, _, _, _⟩) (v := ?_) rfl (by kernel_rfl) (by kernel_rfl) (by kernel_rfl) (fun _ _ _ h => h) (Or.inl ⟨by rfl, ?y29e⟩) hHeld ?r29e
                case y29e => ((intro w hSw; (try dsimp only at hSw); go_simp) <;> (try with_reducible rfl))
                try simp only [Act.put, List.setIfInBounds_toArray, List.set_cons_zero, List.set_cons_succ]
                refine wpAnyH_take (i := 30) (oi := ⟨some 131, _, _, _, _, _⟩) (v := ?_) rfl (by kernel_rfl) (by kernel_rfl) (by kernel_rfl) (fun _ _ _ h => h) (Or.inl ⟨by rfl, ?y30e⟩) hHeld ?r30e
                case y30e => ((intro w hSw; (try dsimp only at hSw); go_simp) <;> (try with_reducible rfl))
                try simp only [Act.put, List.setIfInBounds_toArray, List.set_cons_zero, List.set_cons_succ]
                refine wpAnyH_done (by kernel_rfl) ?_ _
                refine NoPanic.normal ?_
                have hwo := without_any (some ⟨g9, 0, none⟩) c2 N ls w.heap.size w8 (by rw [HM.out]; exact HROW9.out.below (below_undrew HB8.out)) (by have := HM.out; omega) hNl
                rw [HM.out] at hwo
                have HWO := Lib.hid hwo
                have HNET8 := Lib.hid (HNET9.out.below (below_undrew HB8.out))
                have HBW8 := Lib.hid (show Below w.heap.size w w8 from HB9.out.trans ((below_undrew HB8.out).mono HB9.out.size))
                clear hwo
                go_wp2_with fail
                refine HWO.out.mono ?_
                rintro e w10 ⟨v10, rfl, hrow10, hb10⟩
                obtain ⟨A10, c10, rfl, _, _⟩ := hrow10.form
                have hle : (ls.eraseIdx N).length = m - 1 := by rw [List.length_eraseIdx, if_pos hNl, HM.out]
                have HLE := Lib.hid hle
                have hfin : Plays w D (.slice A10 (ls.eraseIdx N).length c10) (ls.eraseIdx N) w10 := ⟨F7, HNET8.out.below hb10, HF7.out, HBW8.out.trans (hb10.mono HBW8.out.size), row_mono hrow10 HBW8.out.size, fun k hk hf => by have := (hrow10.lt k hk).1; have := HNET8.out.foot hf; omega, fun x hx => HLS3.out x (List.mem_of_mem_eraseIdx hx)⟩
                rw [hle] at hfin
                rw [hle]
                have HFIN := Lib.hid hfin
                clear hrow10 hb10 hle hfin
                go_wp2
                go_meet
                case rel => exact ⟨m - 1, c10, A10, ls.eraseIdx N, rfl, by omega, HLE, HFIN⟩
            · as_aux_lemma =>
                have h40 : ((kd : Int) % 4 == 0) = false := by simp; omega
                have h41 : ((kd : Int) % 4 == 1) = false := by simp; omega
                have h42 : ((kd : Int) % 4 == 2) = false := by simp; omega
                clear hr4
                obtain ⟨N, rfl, hNm⟩ : ∃ N : Nat, num = (N : Int) ∧ N < m := by
                  have := HTH.out
                  rw [hth] at this
                  have h2 := this.symm
                  simp only [Bool.and_eq_true, decide_eq_true_eq] at h2
                  exact ⟨num.toNat, by omega, by omega⟩
                have hNl : N < ls.length := by have := HM.out; omega
                have hcp := copy_any D N F3 (pks ls) _ HN3.out (by rw [pks_len]; exact hNl) (by rw [pks_len]; have := HM.out; omega)
                rw [pks_at hNl] at hcp
                have HCP := Lib.hid hcp
                have HRX := Lib.hid (HLS3.out ls[N] (List.getElem_mem hNl))
                have HLKX := Lib.hid (fun (wy : World) (hr : LRow wy w.heap.size (.slice A2 m c2) ls) => hr.look hNl)
                have HPA := Lib.hid (pks_app ls ls[N])
                clear hcp
                generalize ls[N] = x at *
                obtain ⟨q9, A9, n9, c9⟩ := x
                simp only at HCP HRX HLKX HPA
                go_wp2_with fail
                refine HCP.out.mono ?_
                rintro e w5 ⟨rfl, F5, hn5, ht5, hs5⟩
                have hw5 : wr.heap.size < w5.heap.size := by have := ht5.size; simp at this; omega
                have v4 := (ht5.cell (p := ⟨wr.heap.size, 4, none⟩) (by simp) HFT.out).trans ((cellAt 4 (heapNew (w := wr) _)).trans (rfl : _ = some (Value.int .i64 N)))
                have hR5 : LRow w5 w.heap.size (.slice A2 m c2) ls := ownsRow_turned HROW3.out ht5 HVF3.out
                obtain ⟨g9, hA9, hg9, hg9', k10, k11, k12⟩ := HLKX.out w5 hR5
                subst hA9
                unfold LRow at hR5
                rw [HM.out] at hR5
                have HR5 := Lib.hid hR5
                have HB5 := Lib.hid (HB3.out.trans (ht5.below HB3.out.size HF3.out))
                have HN5 := Lib.hid (show NetAt w5 F5 D (pks (ls ++ [(q9, A9, n9, c9)])) by rw [HPA.out]; exact hn5)
                have HF5 := Lib.hid (show ∀ k, F5 k → w.heap.size ≤ k from fun k hk => (hs5 k hk).elim (HF3.out k) (fun h => Nat.le_trans HB3.out.size h))
                have HV5 := Lib.hid (show ∀ k, (Value.slice (some ⟨g9, 0, none⟩) m c2).ownBlock = some k → w.heap.size ≤ k ∧ ¬ F5 k from fun k hk => ⟨HVB.out k hk, fun hf => (hs5 k hf).elim (HVF3.out k hk) (fun h => by have := (HROW3.out.lt k hk).2; omega)⟩)
                have hkk0 : (0 : Int) ≤ (N : Int) := by omega
                have hkk1 : (N : Int) < (m : Int) := by omega
                clear hn5 ht5 hs5 hR5 HCP HLKX
                go_wp2_with (at_builtin; go_must (refine wpList_append_lies _ rfl (.tmp 61) (.tmp 67) _ rfl w.heap.size 29 i0 _ 3 40 Try.underlying26 HI.out HZ0.out HZ1.out HZ2.out rfl (by omega) (.slice (some ⟨g9, 0, none⟩) m c2) m _ rfl (HR5.out.alloc _) ⟨w5.heap.size, 0, none⟩ 1 1 [.int .i64 q9.src, .int .i64 q9.dst, .slice A9 n9 c9] rfl rfl (World.news_of_block (cs := #[.int .i64 q9.src, .int .i64 q9.dst, .slice A9 n9 c9]) (t := 29) (fr := (0, 0)) (heap_alloc_new w5 _)) (by simp [Value.oneCell']) (by omega) (by simp only [maxLen]; omega) (by omega) (by have := HB5.out.size; simp; omega) (w5.heap.size + 1) (by simp) ?_))
                intro gg9 cap9 w9 hown9 hgrow9 hat9 hlt9
                have hfin := Plays.grow (g := gg9) (cap := cap9) (x := (q9, A9, n9, c9)) HN5.out HF5.out HB5.out (by rw [HM.out]; exact hown9) hgrow9 hat9 HV5.out HLS3.out HRX.out
                rw [HM.out] at hfin
                have HFIN := Lib.hid hfin
                have HLEN := Lib.hid (show (ls ++ [(q9, A9, n9, c9)]).length = m + 1 by rw [List.length_append, HM.out]; rfl)
                clear hown9 hgrow9 hat9 hfin
                go_wp2
                go_meet
                case rel => exact ⟨m + 1, cap9, _, ls ++ [(q9, A9, n9, c9)], rfl, by omega, HLEN, HFIN⟩
          case rest =>
            as_aux_lemma =>
              obtain ⟨m3, c5, A5, ls3, rfl, hm3, HM3, HP3⟩ := hcut
              rename World => wc
              obtain ⟨F3, hn3, hF3, hb3, hrow3, hvf3, hls3⟩ := HP3.out
              obtain ⟨A6, c6, hv6, hc6, hc6m⟩ := hrow3.form
              injection hv6 with e1 e2 e3
              subst e1 e3
              rw [HM3.out] at hc6
              have hln := len_any D F3 (pks ls3) wc hn3
              rw [pks_len, HM3.out] at hln
              have HLN := Lib.hid hln
              clear hn3 hF3 hb3 hrow3 hvf3 hls3 hln e2 HAL HTH
              go_wp2_with fail
              refine HLN.out.mono ?_
              rintro e w6 ⟨rfl, rfl⟩
              go_wp2_with fail
              go_loopw [11] (fun p wz => ∃ k : Nat, p = .int .i64 k ∧ k ≤ m3 ∧ Hid (Plays w D (.slice A5 m3 c5) ls3 wz)) (fun p _ => m3 - (intOf p).toNat)
              case atStart => exact ⟨0, rfl, Nat.zero_le _, HP3⟩
              case round =>
                obtain ⟨k, rfl, hk, HPZ⟩ := hrel
                rename World => wz
                by_cases hkm : k < m3
                · have hkl : k < ls3.length := by have := HM3.out; omega
                  obtain ⟨F4, hn4, hF4, hb4, hrow4, hvf4, hls4⟩ := HPZ.out
                  have hat := at_any D k F4 (pks ls3) wz hn4 (by rw [pks_len]; exact hkl) (by rw [pks_len]; have := HM3.out; omega)
                  rw [pks_at hkl] at hat
                  have HAT := Lib.hid hat
                  have HRX := Lib.hid (fun wy (hy : Below w.heap.size w wy) => (hls4 ls3[k] (List.getElem_mem hkl)).1.below hy)
                  have HLK := Lib.hid (fun wy (hy : Below wz.heap.size wz wy) => (hrow4.below hy).look hkl)
                  have HB4 := Lib.hid hb4
                  clear hn4 hF4 hb4 hrow4 hvf4 hls4 hat
                  go_wp2_with fail
                  refine HAT.out.mono ?_
                  rintro e w7 ⟨g7, rfl, hown7, hb7⟩
                  obtain ⟨g9, hA9, hg9, hg9', k10, k11, k12⟩ := HLK.out w7 hb7
                  have HB7 := Lib.hid (HB4.out.trans (hb7.mono HB4.out.size))
                  have HRX7 := Lib.hid ((HRX.out w7 HB7.out).more HB7.out.size)
                  have HP7 := Lib.hid (HPZ.out.below hb7)
                  subst hA9
                  clear HLK HRX HAT
                  generalize ls3[k] = x at *
                  obtain ⟨q9, A9, n9, c9⟩ := x
                  simp only at k10 k11 k12 HRX7 hown7
                  rw [show pkVal (q9, A9, n9, c9).1 g7 = .agg #[.int .i64 q9.src, .int .i64 q9.dst, .slice (some ⟨g7, 0, none⟩) q9.data.length q9.data.length] from rfl]
                  obtain ⟨A8, c8, hv8, hrd8⟩ := hown7.open_
                  unfold slOf at hv8
                  injection hv8 with e81 e82 e83
                  subst e81 e83
                  have HSM := Lib.hid (same_eq q9 _ _ _ _ _ _ w7.heap.size (w7.alloc (.cells #[.int .i64 q9.src, .int .i64 q9.dst, .slice (some ⟨g7, 0, none⟩) q9.data.length q9.data.length] 29)).drew ((hrd8.alloc (Nat.le_refl _) _).drew) ((HRX7.out.alloc (Nat.le_refl _) _).drew) (by simp))
                  clear hown7 hb7 hrd8 e82
                  generalize q9.data.length = l9 at *
                  have hkk0 : (0 : Int) ≤ (k : Int) := by omega
                  have hkk1 : (k : Int) < (m3 : Int) := by omega
                  go_wp2_with fail
                  go_region_held3 (fun w' => w'.cell? ⟨w7.heap.size, 0, none⟩ = some (.int .i64 q9.src) ∧ w'.cell? ⟨w7.heap.size, 1, none⟩ = some (.int .i64 q9.dst) ∧ w'.cell? ⟨w7.heap.size, 2, none⟩ = some (.slice (some ⟨g7, 0, none⟩) l9 l9) ∧ w'.cell? ⟨g9, k * 3, none⟩ = some (.int .i64 q9.src) ∧ w'.cell? ⟨g9, k * 3 + 1, none⟩ = some (.int .i64 q9.dst) ∧ w'.cell? ⟨g9, k * 3 + 2, none⟩ = some (.slice A9 n9 c9))
                    (go_keep)
                    ((go_at_call 12; refine HSM.out.mono ?_; rintro e w8 ⟨rfl, hb8⟩
                      have y0 := (hb8.cell (p := ⟨w7.heap.size, 0, none⟩) (by simp)).trans ((cellAt 0 (heapNew (w := w7) _)).trans (rfl : _ = some (Value.int .i64 q9.src)))
                      have y1 := (hb8.cell (p := ⟨w7.heap.size, 1, none⟩) (by simp)).trans ((cellAt 1 (heapNew (w := w7) _)).trans (rfl : _ = some (Value.int .i64 q9.dst)))
                      have y2 := (hb8.cell (p := ⟨w7.heap.size, 2, none⟩) (by simp)).trans ((cellAt 2 (heapNew (w := w7) _)).trans (rfl : _ = some (Value.slice (some ⟨g7, 0, none⟩) l9 l9)))
                      have y3 := (hb8.cell (p := ⟨g9, k * 3, none⟩) (by simp; omega)).trans ((World.cell?_alloc_lt w7 _ _ hg9').trans k10)
                      have y4 := (hb8.cell (p := ⟨g9, k * 3 + 1, none⟩) (by simp; omega)).trans ((World.cell?_alloc_lt w7 _ _ hg9').trans k11)
                      have y5 := (hb8.cell (p := ⟨g9, k * 3 + 2, none⟩) (by simp; omega)).trans ((World.cell?_alloc_lt w7 _ _ hg9').trans k12)
                      have HB8 := Lib.hid hb8
                      clear hb8))
                  have HP8 := Lib.hid ((HP7.out.alloc _).drew.below HB8.out)
                  go_wp2
                  go_roundw
                  case rel => exact ⟨k + 1, by go_num, by omega, HP8⟩
                  case measure => simp [intOf]; omega
                · go_wp2
                  go_roundw
                  case rel => exact ⟨i + 1, m3, c5, A5, ls3, by go_num, rfl, by omega, by omega, by omega, HM3, HPZ⟩
                  case measure => simp [intOf]; omega
    · obtain ⟨F9, hn9, hF9, hb9, _⟩ := HP.out
      have HB9 := Lib.hid hb9
      clear hn9 hF9 hb9
      have hend : i = n ∨ (i < n ∧ i = 100) := by omega
      rcases hend with hend | ⟨hend, hend2⟩
      · subst hend
        go_wp2
        go_ret
        exact ⟨rfl, HB9.out⟩
      · subst hend2
        go_wp2
        go_ret
        exact ⟨rfl, HB9.out⟩
end Go.Proofs.Ytmhkpdfmjapdnaa
