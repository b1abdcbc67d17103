/-
  The law WireKeeps.
-/
import Derived.Test.YtmhkpdfmjapdnaaWireG
namespace Go.Proofs.Ytmhkpdfmjapdnaa
open Go.RowKit Mem
set_option linter.unusedVariables false

theorem xor_small (x : UInt8) (m : Nat) (hm : m < 256) : bits BinOp.xor IntKind.u8 (x.toNat : Int) (m : Int) = ((UInt8.ofNat (x.toNat ^^^ m)).toNat : Int) := by
  have hx : x.toNat < 256 := UInt8.toNat_lt _
  have h1 : x.toNat ^^^ m < 256 := Nat.xor_lt_two_pow (n := 8) hx hm
  rw [u8_xor_nat _ _ hx hm]
  rw [UInt8.toNat_ofNat', Nat.mod_eq_of_lt h1]

/-- bytes of the law's own, in a variable's block V, and a network beside them, while the bytes are written over -/
def Beside (w : World) (D V : Nat) (ps : List Pk) (f t : Int) (v : Value) (n : Nat) (wr : World) : Prop :=
  (∃ F, NetAt wr F D ps ∧ (∀ k, F k → w.heap.size ≤ k) ∧ (∀ k, v.ownBlock = some k → ¬ F k) ∧ ¬ F V) ∧ (∃ l : List UInt8, l.length = n ∧ Own wr w.heap.size 5 v l) ∧
    wr.heap[V]? = some (.cells #[.int .i64 f, .int .i64 t, v] 29 (0, 0)) ∧ Below w.heap.size w wr

theorem Beside.step {w wr : World} {D V g n c i : Nat} {ps : List Pk} {f t : Int} (h : Beside w D V ps f t (.slice (some ⟨g, 0, none⟩) n c) n wr) (b : UInt8) :
    Beside w D V ps f t (.slice (some ⟨g, 0, none⟩) n c) n (wr.setCell ⟨g, i, none⟩ (.int .u8 (b.toNat : Int))) := by
  obtain ⟨⟨F, h1, h2, h3, h4⟩, ⟨l, hl, ho⟩, hv, hb⟩ := h
  have hgV : V ≠ g := fun e => by
    obtain ⟨cur, hh⟩ := own_kind ho (k := g) rfl
    rw [e] at hv
    have := hv.symm.trans hh
    simp at this
  have hT : Turned (· = g) wr (wr.setCell ⟨g, i, none⟩ (.int .u8 (b.toNat : Int))) := (Turned.refl (· = g) wr).setCell (p := ⟨g, i, none⟩) (.inl rfl) _
  subst hl
  refine ⟨⟨F, h1.far hT (fun k hk e => h3 g rfl (e ▸ hk)), h2, h3, h4⟩, ⟨l.set i b, by simp, ho.stored i b⟩, heapFar hv hgV, hb.setCell (p := ⟨g, i, none⟩) (ho.lt g rfl).1 _⟩

theorem Beside.drew {w wr : World} {D V n : Nat} {ps : List Pk} {f t : Int} {v : Value} (h : Beside w D V ps f t v n wr) : Beside w D V ps f t v n wr.drew := by
  obtain ⟨⟨F, h1, h2, h3, h4⟩, ⟨l, hl, ho⟩, hv, hb⟩ := h
  exact ⟨⟨F, h1, h2, h3, h4⟩, ⟨l, hl, ho⟩, hv, ⟨hb.os, hb.tape, hb.output, hb.size, hb.block⟩⟩

/-- what a round reads -/
theorem Beside.read {w wr : World} {D V n c i : Nat} {ps : List Pk} {f t : Int} {A : Option Addr} (h : Beside w D V ps f t (.slice A n c) n wr) (hi : i < n) :
    ∃ g x, A = some ⟨g, 0, none⟩ ∧ wr.cell? ⟨V, 2, none⟩ = some (.slice (some ⟨g, 0, none⟩) n c) ∧ wr.cell? ⟨g, i, none⟩ = some (.int .u8 ((x : UInt8).toNat : Int)) ∧ wr.frozen? ⟨g, i, none⟩ = false ∧ n ≤ c ∧ c ≤ 9223372036854775807 ∧ g ≠ V := by
  obtain ⟨_, ⟨l, hl, ho⟩, hv, _⟩ := h
  obtain ⟨g, c', hvf, _, _, hc1, hc2, hcell, hfree⟩ := ho.form (by omega)
  injection hvf with e1 e2 e3
  subst e1 e3
  refine ⟨g, _, rfl, (cellAt 2 hv).trans rfl, hcell i (by omega), hfree i, by omega, hc2, fun e => ?_⟩
  obtain ⟨cur, hh⟩ := own_kind ho (k := g) rfl
  rw [← e] at hv
  have := hv.symm.trans hh
  simp at this
theorem Beside.len {w wr : World} {D V n : Nat} {ps : List Pk} {f t : Int} {v : Value} (h : Beside w D V ps f t v n wr) : ∃ A c, v = .slice A n c ∧ wr.cell? ⟨V, 2, none⟩ = some (.slice A n c) := by
  obtain ⟨_, ⟨l, hl, ho⟩, hv, _⟩ := h
  obtain ⟨A, c, hvf, _⟩ := ho.open_
  rw [hl] at hvf
  exact ⟨A, c, hvf, by rw [← hvf]; exact (cellAt 2 hv).trans rfl⟩

theorem Own.raise {w : World} {b b' : Nat} {e : TypeId} {v : Value} {l : List UInt8} (h : Own w b e v l) (hb : ∀ k, v.ownBlock = some k → b' ≤ k) : Own w b' e v l := by
  refine ⟨h.1, ?_⟩
  rcases h.2 with h2 | ⟨g, cap, cur, rfl, hg, r⟩
  · exact .inl h2
  · exact .inr ⟨g, cap, cur, rfl, hb g rfl, r⟩

set_option maxRecDepth 100000 in
set_option maxHeartbeats 4000000 in
theorem wireKeeps_any (p : Pk) (A : Option Addr) (n c : Nat) (w : World) (hr : Rd w w.heap.size A n c p.data) (hc : c ≤ 140737488351232) :
    Calls Try.prog 4 #[.agg #[.int .i64 p.src, .int .i64 p.dst, .slice A n c]] w (Yes w) := by
  obtain ⟨i0, hi, hz0, hz1, hz2⟩ := info_parts Try.infoB
  have HI := Lib.hid hi; have HZ0 := Lib.hid hz0; have HZ1 := Lib.hid hz1; have HZ2 := Lib.hid hz2
  clear hi hz0 hz1 hz2
  have HN := Lib.hid hr.len
  have hcap := hr.cap
  have HR0 := Lib.hid hr
  clear hr
  go_enter Try.func4, Try.ntmps4
  go_wp2_with fail
  -- the world with the argument's own block
  obtain ⟨wB, hwB⟩ : ∃ x, x = w.alloc (.cells #[.int .i64 p.src, .int .i64 p.dst, .slice A n c] 29) := ⟨_, rfl⟩
  have HBX := Lib.hid (show wB.heap[w.heap.size]? = some (.cells #[.int .i64 p.src, .int .i64 p.dst, .slice A n c] 29 (0, 0)) by rw [hwB]; exact heapNew _)
  have HW := Lib.hid (show Below w.heap.size w wB by rw [hwB]; exact (Below.refl _ w).alloc (Nat.le_refl _) _)
  have hsB : w.heap.size < wB.heap.size := by rw [hwB]; simp
  have HR := Lib.hid (show Rd wB wB.heap.size A n c p.data by rw [hwB]; exact (HR0.out.alloc (Nat.le_refl _) _).more (by simp))
  rw [← hwB]
  clear hwB HR0
  refine (awake_any wB).mono ?_
  rintro e w1 ⟨rfl, hb1⟩
  go_wp2_with fail
  refine (new_any w1).mono ?_
  rintro e w2 ⟨D, F, rfl, hd, hF, hb2⟩
  have hB2 := hb1.trans (hb2.mono hb1.size)
  have hz2 : w.heap.size < w2.heap.size := by have := hB2.size; omega
  have p0 := (hB2.cell (p := ⟨w.heap.size, 0, none⟩) hsB).trans ((cellAt 0 HBX.out).trans (rfl : _ = some (Value.int .i64 p.src)))
  have p1 := (hB2.cell (p := ⟨w.heap.size, 1, none⟩) hsB).trans ((cellAt 1 HBX.out).trans (rfl : _ = some (Value.int .i64 p.dst)))
  have p2 := (hB2.cell (p := ⟨w.heap.size, 2, none⟩) hsB).trans ((cellAt 2 HBX.out).trans (rfl : _ = some (Value.slice A n c)))
  have HR2 := Lib.hid (((HR.out.below hB2).alloc hB2.size (.cells #[.int .i64 p.src, .int .i64 p.dst, .slice none 0 0] 29)))
  have HD := Lib.hid hd; have HF := Lib.hid (show ∀ k, F k → wB.heap.size ≤ k from fun k hk => Nat.le_trans hb1.size (hF k hk)); have HB2 := Lib.hid hB2
  clear hd hF hb1 hb2 hB2
  go_wp2_with (at_builtin; go_must (refine wpList_app _ rfl (.tmp 23) (.tmp 25) _ rfl (w2.heap.size + 1) wB.heap.size _ i0 Try.underlying27 HI.out HZ0.out HZ1.out HZ2.out _ [] (Own.nil _ _ _) rfl _ _ _ p.data HR2.out rfl ?_ (by simp) ?_))
  · have := HN.out; simp; omega
  intro v w3 hown hg hat
  have hown : Own w3 (w2.heap.size + 1) 5 v p.data := hown
  have hb3 : Below (w2.heap.size + 1) (w2.alloc (.cells #[.int .i64 p.src, .int .i64 p.dst, .slice none 0 0] 29)) w3 := below_own (Own.nil _ (w2.heap.size + 1) 5) (by simp) hg
  have HQ3 := Lib.hid ((hb3.block w2.heap.size (by omega)).trans (heapNew (w := w2) _))
  have q2 := (cellAt 2 HQ3.out).trans (rfl : _ = some (Value.slice none 0 0))
  have q0 := (cellAt 0 HQ3.out).trans (rfl : _ = some (Value.int .i64 p.src))
  have q1 := (cellAt 1 HQ3.out).trans (rfl : _ = some (Value.int .i64 p.dst))
  have f2 := freeAt 2 HQ3.out
  obtain ⟨A1, c1, hv, hrd1⟩ := hown.open_
  have hnn : p.data.length = n := HN.out.symm
  rw [hnn] at hv hrd1
  have hc1 := hrd1.cap; have hc1m := hrd1.max
  subst hv
  have hsz3 : w2.heap.size + 1 ≤ w3.heap.size := by have := hb3.size; simpa using this
  have hvQ : ∀ k, (Value.slice A1 n c1).ownBlock = some k → w2.heap.size + 1 ≤ k := fun k hk => (hown.lt k hk).1
  -- the world with q's bytes
  obtain ⟨w4, hw4⟩ : ∃ x, x = w3.setCell ⟨w2.heap.size, 2, none⟩ (.slice A1 n c1) := ⟨_, rfl⟩
  have hT4 : Turned (· = w2.heap.size) w3 w4 := by rw [hw4]; exact (Turned.refl (· = w2.heap.size) w3).setCell (p := ⟨w2.heap.size, 2, none⟩) (.inl rfl) _
  have hfoot : ∀ k, F k → k < w2.heap.size := fun k hk => HD.out.foot hk
  have hD4 : NetAt w4 F D [] := ((HD.out.alloc (.cells #[.int .i64 p.src, .int .i64 p.dst, .slice none 0 0] 29)).far (Turned.of_below (F := fun _ => False) (by
      have := hb3
      rw [show w2.heap.size + 1 = (w2.alloc (.cells #[.int .i64 p.src, .int .i64 p.dst, .slice none 0 0] 29)).heap.size by simp] at this
      exact this)) (fun _ _ h => h)).far hT4 (fun k hk e => by have := hfoot k hk; omega)
  have hown4 : Own w4 (w2.heap.size + 1) 5 (.slice A1 n c1) p.data := hown.turned hT4 (fun k hk e => by have := hvQ k hk; omega)
  have hQ4 : w4.heap[w2.heap.size]? = some (.cells #[.int .i64 p.src, .int .i64 p.dst, .slice A1 n c1] 29 (0, 0)) := by rw [hw4]; exact (heapSet 2 _ HQ3.out).trans rfl
  have hB4 : Below wB.heap.size wB w4 := by
    have h0 : Below wB.heap.size wB w3 := (HB2.out.alloc HB2.out.size _).trans (hb3.mono (by have := HB2.out.size; omega))
    rw [hw4]
    exact h0.setCell (p := ⟨w2.heap.size, 2, none⟩) HB2.out.size _
  obtain ⟨A1', c1', hv', hrd4⟩ := hown4.open_
  injection hv' with e1 e2 e3
  subst e1 e3
  rw [hnn] at hrd4
  have HS := Lib.hid (send_any D w4.heap.size F [] p A1 n c1 w4 hD4 hrd4 (Nat.le_refl _) (by omega) (by decide))
  have HW4 := Lib.hid hw4; have HO4 := Lib.hid hown4; have HQ4 := Lib.hid hQ4; have HB4 := Lib.hid hB4
  have HVF := Lib.hid (show ∀ k, (Value.slice A1 n c1).ownBlock = some k → ¬ F k from fun k hk hf => by have := hvQ k hk; have := hfoot k hf; omega)
  have HQF := Lib.hid (show ¬ F w2.heap.size from fun hf => by have := hfoot _ hf; omega)
  have hq4 : w2.heap.size < w4.heap.size := heapLt hQ4
  clear hown hg hat hb3 hrd1 hfoot hD4 hown4 hQ4 hB4 hT4 hrd4 e2 hnn hw4 HR2 HD
  go_wp2_with fail
  rw [← HW4.out]
  refine HS.out.mono ?_
  rintro e w5 ⟨rfl, F5, hd5, ht5, hs5⟩
  have HO5 := Lib.hid (HO4.out.turned ht5 HVF.out)
  have HQ5 := Lib.hid ((ht5.block _ hq4 HQF.out).trans HQ4.out)
  have HVF5 := Lib.hid (show ∀ k, (Value.slice A1 n c1).ownBlock = some k → ¬ F5 k from fun k hk hf => (hs5 k hf).elim (HVF.out k hk) (fun h => by have := (HO4.out.lt k hk).2; omega))
  have HQF5 := Lib.hid (show ¬ F5 w2.heap.size from fun hf => (hs5 _ hf).elim HQF.out (fun h => by omega))
  have HF5 := Lib.hid (show ∀ k, F5 k → wB.heap.size ≤ k from fun k hk => (hs5 k hk).elim (HF.out k) (fun h => Nat.le_trans HB4.out.size h))
  have HB5 := Lib.hid (HB4.out.trans (ht5.below HB4.out.size HF.out))
  have HC := Lib.hid (copy_any D 0 F5 ([] ++ [p]) w5 hd5 (by simp) (by simp))
  have hq5 : w2.heap.size < w5.heap.size := heapLt HQ5.out
  clear hd5 ht5 hs5 HO4 HQ4 HVF HQF HF HB4 HS
  go_wp2_with fail
  refine HC.out.mono ?_
  rintro e w6 ⟨rfl, F6, hd6, ht6, hs6⟩
  have hd6 : NetAt w6 F6 D [p, p] := hd6
  have HBS0 := Lib.hid (show Beside wB D w2.heap.size [p, p] p.src p.dst (.slice A1 n c1) n w6 from
    ⟨⟨F6, hd6, fun k hk => (hs6 k hk).elim (HF5.out k) (fun h => Nat.le_trans HB5.out.size h), fun k hk hf => (hs6 k hf).elim (HVF5.out k hk) (fun h => by have := (HO5.out.lt k hk).2; omega), fun hf => (hs6 _ hf).elim HQF5.out (fun h => by omega)⟩,
      ⟨p.data, HN.out.symm, (HO5.out.turned ht6 HVF5.out).less (by have := HB2.out.size; omega)⟩, (ht6.block _ hq5 HQF5.out).trans HQ5.out, HB5.out.trans (ht6.below HB5.out.size HF5.out)⟩)
  clear hd6 ht6 hs6 HO5 HQ5 HVF5 HQF5 HF5 HB5 HC p0 p1 p2 q0 q1 q2 f2
  go_wp2_with fail
  go_loopw [5] (fun p' wr => ∃ i : Nat, p' = .int .i64 i ∧ i ≤ n ∧ Hid (Beside wB D w2.heap.size [p, p] p.src p.dst (.slice A1 n c1) n wr)) (fun p' _ => n - (intOf p').toNat)
  case atStart => exact ⟨0, rfl, Nat.zero_le _, HBS0⟩
  case round =>
    obtain ⟨i, rfl, hi, HBS⟩ := hrel
    rename World => wra
    by_cases hlt : i < n
    · obtain ⟨g, x, hA, c2, ci, fi, hcc, hccm, hgV⟩ := HBS.out.read hlt
      subst hA
      obtain ⟨bb, hxor⟩ : ∃ bb : UInt8, bits BinOp.xor IntKind.u8 (x.toNat : Int) 1 = (bb.toNat : Int) := ⟨_, xor_small x 1 (by decide)⟩
      have HST := Lib.hid (HBS.out.step (i := i) bb)
      have hi0 : (0 : Int) ≤ (i : Int) := by omega
      have hi1 : (i : Int) < (n : Int) := by omega
      go_wp2_with fail
      go_region
      all_goals
        go_wp2
        go_roundw
        case rel => exact ⟨i + 1, by go_num, by omega, Lib.hid HST.out.drew⟩
        case measure => simp [intOf]; omega
    · obtain ⟨A9, c9, hv9, cv9⟩ := HBS.out.len
      injection hv9 with e91 e92 e93
      subst e91 e93
      clear e92
      obtain ⟨⟨F6', hn6, hF6, _, _⟩, _, _, hb6⟩ := HBS.out
      have hat := at_any D 1 F6' [p, p] wra hn6 (by simp) (by simp)
      have HAT := Lib.hid (show Calls Try.prog 10 #[.pointer (some ⟨D, 0, none⟩), .int .i64 1] wra (AtPk p wra) from hat)
      have HN6 := Lib.hid hn6; have HF6 := Lib.hid hF6; have HB6 := Lib.hid hb6
      clear hn6 hF6 hb6 hat
      go_wp2_with fail
      refine HAT.out.mono ?_
      rintro e w7 ⟨g7, rfl, hown7, hb7⟩
      have hnn : p.data.length = n := HN.out.symm
      rw [show pkVal p g7 = .agg #[.int .i64 p.src, .int .i64 p.dst, .slice (some ⟨g7, 0, none⟩) n n] by rw [← hnn]; rfl]
      have hown7 : Own w7 wra.heap.size 5 (.slice (some ⟨g7, 0, none⟩) n n) p.data := by rw [← hnn]; exact hown7
      have hn7 := HN6.out.below hb7
      have hg7 := (hown7.lt g7 rfl).1
      have HBS7 := Lib.hid (show Beside wB D w7.heap.size [p, p] p.src p.dst (.slice (some ⟨g7, 0, none⟩) n n) n (w7.alloc (.cells #[.int .i64 p.src, .int .i64 p.dst, .slice (some ⟨g7, 0, none⟩) n n] 29)) from
        ⟨⟨F6', hn7.alloc _, HF6.out, fun k hk hf => by injection hk with hk; have := HN6.out.foot hf; have hk : g7 = k := hk; omega, fun hf => absurd (hn7.foot hf) (Nat.lt_irrefl _)⟩, ⟨p.data, hnn, (hown7.less HB6.out.size).alloc _⟩, heapNew (w := w7) _, (HB6.out.trans (hb7.mono HB6.out.size)).alloc (Nat.le_trans HB6.out.size hb7.size) _⟩)
      clear hown7 hb7 hn7 hnn hg7
      generalize (some ⟨g7, 0, none⟩ : Option Addr) = A7 at *
      go_wp2_with fail
      go_loopw [8] (fun p' wr => ∃ i : Nat, p' = .int .i64 i ∧ i ≤ n ∧ Hid (Beside wB D w7.heap.size [p, p] p.src p.dst (.slice A7 n n) n wr)) (fun p' _ => n - (intOf p').toNat)
      case atStart => exact ⟨0, rfl, Nat.zero_le _, HBS7⟩
      case round =>
        obtain ⟨i, rfl, hi, HBS⟩ := hrel
        rename World => wrb
        by_cases hlt : i < n
        · obtain ⟨g, x, hA, c2, ci, fi, hcc, hccm, hgV⟩ := HBS.out.read hlt
          subst hA
          obtain ⟨bb, hxor⟩ : ∃ bb : UInt8, bits BinOp.xor IntKind.u8 (x.toNat : Int) 2 = (bb.toNat : Int) := ⟨_, xor_small x 2 (by decide)⟩
          have HST := Lib.hid (HBS.out.step (i := i) bb)
          have hi0 : (0 : Int) ≤ (i : Int) := by omega
          have hi1 : (i : Int) < (n : Int) := by omega
          go_wp2_with fail
          go_region
          all_goals
            go_wp2
            go_roundw
            case rel => exact ⟨i + 1, by go_num, by omega, Lib.hid HST.out.drew⟩
            case measure => simp [intOf]; omega
        · obtain ⟨A9, c9, hv9, cv9⟩ := HBS.out.len
          injection hv9 with e91 e92 e93
          subst e91 e93
          clear e92
          obtain ⟨⟨F7, hn7, hF7, _, _⟩, _, _, hb7⟩ := HBS.out
          have htk := take_any D 1 F7 [p, p] wrb hn7 (by simp) (by simp)
          have HTK := Lib.hid (show Calls Try.prog 11 #[.pointer (some ⟨D, 0, none⟩), .int .i64 1] wrb (TakePk F7 D p [p] wrb) from htk)
          have HF7 := Lib.hid hF7; have HB7 := Lib.hid hb7
          clear hn7 hF7 hb7 htk
          go_wp2_with fail
          refine HTK.out.mono ?_
          rintro e w8 ⟨A4, c4, rfl, hown8, F8, hnet8, hsub, hnb, ht8⟩
          have hnn : p.data.length = n := HN.out.symm
          rw [hnn] at hown8 hnb
          rw [hnn]
          have HBS8 := Lib.hid (show Beside wB D w8.heap.size [p] p.src p.dst (.slice A4 n c4) n (w8.alloc (.cells #[.int .i64 p.src, .int .i64 p.dst, .slice A4 n c4] 29)) from
            ⟨⟨F8, hnet8.alloc _, fun k hk => HF7.out k (hsub k hk), fun k hk hf => (hnb k hk).2 hf, fun hf => absurd (hnet8.foot hf) (Nat.lt_irrefl _)⟩, ⟨p.data, hnn, (Own.raise hown8 (fun k hk => HF7.out k (hnb k hk).1)).alloc _⟩, heapNew (w := w8) _, (HB7.out.trans (ht8.below HB7.out.size HF7.out)).alloc (Nat.le_trans HB7.out.size ht8.size) _⟩)
          clear hown8 hnet8 hsub hnb ht8 hnn
          go_wp2_with fail
          go_loopw [11] (fun p' wr => ∃ i : Nat, p' = .int .i64 i ∧ i ≤ n ∧ Hid (Beside wB D w8.heap.size [p] p.src p.dst (.slice A4 n c4) n wr)) (fun p' _ => n - (intOf p').toNat)
          case atStart => exact ⟨0, rfl, Nat.zero_le _, HBS8⟩
          case round =>
            obtain ⟨i, rfl, hi, HBS⟩ := hrel
            rename World => wrc
            by_cases hlt : i < n
            · obtain ⟨g, x, hA, c2, ci, fi, hcc, hccm, hgV⟩ := HBS.out.read hlt
              subst hA
              obtain ⟨bb, hxor⟩ : ∃ bb : UInt8, bits BinOp.xor IntKind.u8 (x.toNat : Int) 4 = (bb.toNat : Int) := ⟨_, xor_small x 4 (by decide)⟩
              have HST := Lib.hid (HBS.out.step (i := i) bb)
              have hi0 : (0 : Int) ≤ (i : Int) := by omega
              have hi1 : (i : Int) < (n : Int) := by omega
              go_wp2_with fail
              go_region
              all_goals
                go_wp2
                go_roundw
                case rel => exact ⟨i + 1, by go_num, by omega, Lib.hid HST.out.drew⟩
                case measure => simp [intOf]; omega
            · obtain ⟨A9, c9, hv9, cv9⟩ := HBS.out.len
              injection hv9 with e91 e92 e93
              subst e91 e93
              clear e92
              obtain ⟨⟨F9, hn9, hF9, _, _⟩, _, _, hb9⟩ := HBS.out
              have htk := take_any D 0 F9 [p] wrc hn9 (by simp) (by simp)
              have HTK := Lib.hid (show Calls Try.prog 11 #[.pointer (some ⟨D, 0, none⟩), .int .i64 0] wrc (TakePk F9 D p [] wrc) from htk)
              have HF9 := Lib.hid hF9; have HB9 := Lib.hid hb9
              clear hn9 hF9 hb9 htk
              go_wp2_with fail
              refine HTK.out.mono ?_
              rintro e w9 ⟨A5, c5, rfl, hown9, F10, hnet10, hsub, hnb, ht9⟩
              have hB10 : Below wB.heap.size wB w9 := HB9.out.trans (ht9.below HB9.out.size HF9.out)
              have hsz10 : w.heap.size < w9.heap.size := by have := hB10.size; omega
              have p0 := (hB10.cell (p := ⟨w.heap.size, 0, none⟩) hsB).trans ((cellAt 0 HBX.out).trans (rfl : _ = some (Value.int .i64 p.src)))
              have p1 := (hB10.cell (p := ⟨w.heap.size, 1, none⟩) hsB).trans ((cellAt 1 HBX.out).trans (rfl : _ = some (Value.int .i64 p.dst)))
              have p2 := (hB10.cell (p := ⟨w.heap.size, 2, none⟩) hsB).trans ((cellAt 2 HBX.out).trans (rfl : _ = some (Value.slice A n c)))
              obtain ⟨A6, c6, hv6, hrd6⟩ := hown9.open_
              injection hv6 with e61 e62 e63
              subst e61 e63
              have HSM := Lib.hid (same_eq p A5 A p.data.length c5 n c w9.heap.size (w9.alloc (.cells #[.int .i64 p.src, .int .i64 p.dst, .slice A5 p.data.length c5] 29)) (hrd6.alloc (Nat.le_refl _) _) (((HR.out.below hB10).more hB10.size).alloc (Nat.le_refl _) _) (by simp))
              have HN10 := Lib.hid hnet10; have HB10 := Lib.hid hB10
              clear hown9 hnet10 hsub hnb ht9 hrd6 e62 hB10
              go_wp2_with fail
              refine HSM.out.mono ?_
              rintro e w10 ⟨rfl, hb10⟩
              have HLN := Lib.hid (len_any D F10 [] w10 ((HN10.out.alloc _).below hb10))
              have HB11 := Lib.hid (((HB10.out.alloc HB10.out.size _).trans (hb10.mono (by have := HB10.out.size; simp; omega))))
              clear hb10
              go_wp2_with fail
              refine HLN.out.mono ?_
              rintro e w11 ⟨rfl, rfl⟩
              rw [show (([] : List Pk).length : Int) = 0 from rfl]
              go_wp2
              go_ret
              exact ⟨rfl, HW.out.trans (HB11.out.mono (Nat.le_of_lt hsB))⟩
end Go.Proofs.Ytmhkpdfmjapdnaa
