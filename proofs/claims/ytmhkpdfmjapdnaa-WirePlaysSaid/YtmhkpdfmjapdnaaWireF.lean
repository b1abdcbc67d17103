/-
  What Take does, by a contract.
-/
import Derived.Test.YtmhkpdfmjapdnaaWireE
import Derived.Deep.RegionHeld3
import Derived.IntWalk
namespace Go.Proofs.Ytmhkpdfmjapdnaa
open Go.RowKit Mem
set_option linter.unusedVariables false
attribute [local go_sem ↓] Go.wp_at_zero Go.wp_at_succ

/-- a row written over in its midst -/
def spl (cur : Array Value) (off : Nat) (cs : List Value) : Array Value := (cur.toList.take off ++ cs ++ cur.toList.drop (off + cs.length)).toArray

theorem run_copyN {P : Program} (w : World) (t ty e : TypeId) (size g off dLen dCap : Nat) (sp : Addr) (sLen sCap : Nat) (cur : Array Value) (te : TypeId) (cs : List Value)
    (hu : P.underlying t = some (.slice e)) (hs : (P.info? e).map (·.size) = some size) (hg : w.heap[g]? = some (.cells cur te (0, 0))) (hn : cs.length = Nat.min sLen dLen * size)
    (hsrc : ∀ j v, cs[j]? = some v → w.cell? (sp.add j) = some v) (hfit : off + cs.length ≤ cur.size) (h1 : ∀ v ∈ cs, v.oneCell' = true) :
    (Builtin.copy_ #[t, t] ty #[.slice (some ⟨g, off, none⟩) dLen dCap, .slice (some sp) sLen sCap]).run P w = .ok (goInt (Nat.min sLen dLen)) (w.setRow g (spl cur off cs)) := by
  have hl := run_loadCells_list (P := P) w sp cs hsrc
  have hst := run_storeCells_at P g off te cs 0 cur w hg (by simpa using hfit) h1
  cases hq : P.info? e with
  | none => simp [hq] at hs
  | some i =>
    have hi : i.size = size := by simpa [hq] using hs
    simp [Builtin.copy_, run_underlying hu, Builtin.lenOf, Builtin.firstCells, sizeOf, typeInfo, hq, hi, ← hn, hl, hst, spl]

theorem step_copyN {P : Program} {ops : Array Oper} {o : Oper} {a : Act} {w : World} {K : Act → World → Prop} {Q : Exit → Act → World → Prop} {E : Prop} (hgd : o.guard = none) (d s : Operand) (t : TypeId)
    (ho : o.op = .call { callee := .builtin .copy, args := #[d, s], argTypes := #[t, t] }) (e : TypeId) (size : Nat) (hu : P.underlying t = some (.slice e)) (hsz : (P.info? e).map (·.size) = some size)
    (g off dLen dCap : Nat) (sp : Addr) (sLen sCap : Nat) (hd : a.eval d = .slice (some ⟨g, off, none⟩) dLen dCap) (hs : a.eval s = .slice (some sp) sLen sCap)
    (cur : Array Value) (te : TypeId) (hg : w.heap[g]? = some (.cells cur te (0, 0))) (cs : List Value) (m : Nat) (hm : Nat.min sLen dLen = m) (hn : cs.length = m * size)
    (hsrc : ∀ j v, cs[j]? = some v → w.cell? (sp.add j) = some v) (hfit : off + cs.length ≤ cur.size) (h1 : ∀ v ∈ cs, v.oneCell' = true)
    (h : ∀ w', w'.heap[g]? = some (.cells (spl cur off cs) te (0, 0)) → Turned (· = g) w w' → K (a.put o.dst (goInt m)) w') :
    if Region.wanted o (yielded ops a.tmps) = true then Oper.wp P o a w K Q else E := by
  have hw : Region.wanted o (yielded ops a.tmps) = true := by simp [Region.wanted, hgd]
  rw [if_pos hw]
  subst hm
  have hrun := run_copyN (P := P) w t o.type e size g off dLen dCap sp sLen sCap cur te cs hu hsz hg hn hsrc hfit h1
  unfold Oper.wp
  simp [execOp, ho, resolve, invoke, builtin, hd, hs, hrun, Result.andThen]
  refine h _ (setRow_heap w g _ _ te _ hg) ⟨rfl, rfl, rfl, by simp [World.setRow], fun k hk hne => ?_⟩
  exact setRow_other w g k _ hne

theorem Try.sizeP : (Try.prog.info? 29).map (·.size) = some 3 := by kernel_rfl
theorem there_nat' {i n : Nat} (h : i < n) : there (i : Int) n = true := there_nat h

def zeroPk : Obj := .cells #[.int .i64 0, .int .i64 0, .slice none 0 0] 29
def Took (D i m g cap : Nat) (xs : List Value) (f t : Int) (A : Option Addr) (dn dc : Nat) (w : World) (e : Ending) (w' : World) : Prop :=
  e = .returned (.tuple #[.agg #[.int .i64 f, .int .i64 t, .slice A dn dc], .int .i64 0]) ∧ NB w' D (.slice (some ⟨g, 0, none⟩) m cap) ∧
    (∃ cur', w'.heap[g]? = some (.cells cur' 29 (0, 0)) ∧ cur'.size = cap * 3 ∧ cur'.toList.take (m * 3) = xs.take (i * 3) ++ xs.drop ((i + 1) * 3)) ∧ Turned (fun k => k = D ∨ k = g) w w'

/-- the row behind the copy, and behind the zero packet at its end -/
theorem spl_fact {cur : Array Value} {xs : List Value} {i m cap : Nat} (hi : i ≤ m) (hm : m + 1 ≤ cap) (hsz : cur.size = cap * 3) (hxs : cur.toList.take ((m + 1) * 3) = xs) (z0 z1 z2 : Value) :
    (spl cur (i * 3) (xs.drop ((i + 1) * 3))).size = cap * 3 ∧
    ((((spl cur (i * 3) (xs.drop ((i + 1) * 3))).setIfInBounds (m * 3) z0).setIfInBounds (m * 3 + 1) z1).setIfInBounds (m * 3 + 2) z2).toList.take (m * 3) = xs.take (i * 3) ++ xs.drop ((i + 1) * 3) := by
  have hl : xs.length = (m + 1) * 3 := by rw [← hxs, List.length_take]; simp; omega
  have hcl : cur.toList.length = cap * 3 := by simpa using hsz
  have e1 : cur.toList.take (i * 3) = xs.take (i * 3) := by rw [← hxs, List.take_take, Nat.min_eq_left (by omega)]
  have hsz' : (spl cur (i * 3) (xs.drop ((i + 1) * 3))).size = cap * 3 := by
    unfold spl
    simp only [List.size_toArray, List.length_append, List.length_take, List.length_drop, hl, hcl]
    omega
  refine ⟨hsz', ?_⟩
  simp only [Array.toList_setIfInBounds]
  rw [List.take_set_of_le (by omega), List.take_set_of_le (by omega), List.take_set_of_le (by omega)]
  unfold spl
  rw [e1, List.take_append_of_le_length]
  · rw [List.take_of_length_le]
    simp only [List.length_append, List.length_take, List.length_drop, hl]
    omega
  · simp only [List.length_append, List.length_take, List.length_drop, hl]
    omega

theorem took_end {w w2 W : World} {D i n m g cap : Nat} {cur : Array Value} {xs : List Value} {f t : Int} {A : Option Addr} {dn dc : Nat} (hW : ((w.alloc zeroPk).alloc (.cells #[.int .i64 f, .int .i64 t, .slice A dn dc] 29)).drew = W)
    (hfact : (spl cur (i * 3) (xs.drop ((i + 1) * 3))).size = cap * 3 ∧ ((((spl cur (i * 3) (xs.drop ((i + 1) * 3))).setIfInBounds (m * 3) (.int .i64 0)).setIfInBounds (m * 3 + 1) (.int .i64 0)).setIfInBounds (m * 3 + 2) (.slice none 0 0)).toList.take (m * 3) = xs.take (i * 3) ++ xs.drop ((i + 1) * 3))
    (hgl : g < w.heap.size) (hD : D < w.heap.size) (hgD : g ≠ D) (hg2 : w2.heap[g]? = some (.cells (spl cur (i * 3) (xs.drop ((i + 1) * 3))) 29 (0, 0))) (ht2 : Turned (· = g) W w2) (hn2 : NB w2 D (.slice (some ⟨g, 0, none⟩) n cap))
    (hR : w2.heap[w.heap.size]? = some (.cells #[.int .i64 0, .int .i64 0, .slice none 0 0] 29 (0, 0))) :
    let Y := (((w2.setCell ⟨g, m * 3, none⟩ (.int .i64 0)).setCell ⟨g, m * 3 + 1, none⟩ (.int .i64 0)).setCell ⟨g, m * 3 + 2, none⟩ (.slice none 0 0)).setCell ⟨D, 0, none⟩ (.slice (some ⟨g, 0, none⟩) m cap)
    let X := ((Y.setCell ⟨w.heap.size, 0, none⟩ (.int .i64 f)).setCell ⟨w.heap.size, 1, none⟩ (.int .i64 t)).setCell ⟨w.heap.size, 2, none⟩ (.slice A dn dc)
    (NB X D (.slice (some ⟨g, 0, none⟩) m cap) ∧ (∃ cur', X.heap[g]? = some (.cells cur' 29 (0, 0)) ∧ cur'.size = cap * 3 ∧ cur'.toList.take (m * 3) = xs.take (i * 3) ++ xs.drop ((i + 1) * 3)) ∧ Turned (fun k => k = D ∨ k = g) w X) ∧
    Y.heap[w.heap.size]? = some (.cells #[.int .i64 0, .int .i64 0, .slice none 0 0] 29 (0, 0)) := by
  intro Y X
  have hWs : W.heap.size = w.heap.size + 1 + 1 := by rw [← hW]; simp
  have hY : Y.heap[w.heap.size]? = some (.cells #[.int .i64 0, .int .i64 0, .slice none 0 0] 29 (0, 0)) :=
    heapFar (heapFar (heapFar (heapFar hR (by show _ ≠ g; omega)) (by show _ ≠ g; omega)) (by show _ ≠ g; omega)) (by show _ ≠ D; omega)
  have hN : NB Y D (.slice (some ⟨g, 0, none⟩) m cap) := by
    have h0 : NB (((w2.setCell ⟨g, m * 3, none⟩ (.int .i64 0)).setCell ⟨g, m * 3 + 1, none⟩ (.int .i64 0)).setCell ⟨g, m * 3 + 2, none⟩ (.slice none 0 0)) D (.slice (some ⟨g, 0, none⟩) n cap) :=
      heapFar (heapFar (heapFar hn2 (by show D ≠ g; exact hgD.symm)) (by show D ≠ g; exact hgD.symm)) (by show D ≠ g; exact hgD.symm)
    exact h0.s0 _
  have hG : Y.heap[g]? = some (.cells ((((spl cur (i * 3) (xs.drop ((i + 1) * 3))).setIfInBounds (m * 3) (.int .i64 0)).setIfInBounds (m * 3 + 1) (.int .i64 0)).setIfInBounds (m * 3 + 2) (.slice none 0 0)) 29 (0, 0)) :=
    heapFar (heapSet _ _ (heapSet _ _ (heapSet _ _ hg2))) (by show g ≠ D; exact hgD)
  refine ⟨⟨heapFar (heapFar (heapFar hN (by show D ≠ w.heap.size; omega)) (by show D ≠ w.heap.size; omega)) (by show D ≠ w.heap.size; omega), ⟨_, heapFar (heapFar (heapFar hG (by show g ≠ w.heap.size; omega)) (by show g ≠ w.heap.size; omega)) (by show g ≠ w.heap.size; omega), by simpa using hfact.1, hfact.2⟩, ?_⟩, hY⟩
  have hT0 : Turned (fun k => k = D ∨ k = g) w W := by
    rw [← hW]
    exact (((Turned.refl _ w).alloc _).alloc _).drew
  have hT1 : Turned (fun k => k = D ∨ k = g) w w2 := hT0.trans (ht2.more (fun k _ hk => .inr hk))
  have hT2 : Turned (fun k => k = D ∨ k = g) w Y := ((((hT1.setCell (p := ⟨g, m * 3, none⟩) (.inl (.inr rfl)) _).setCell (p := ⟨g, m * 3 + 1, none⟩) (.inl (.inr rfl)) _).setCell (p := ⟨g, m * 3 + 2, none⟩) (.inl (.inr rfl)) _).setCell (p := ⟨D, 0, none⟩) (.inl (.inl rfl)) _)
  exact ((hT2.setCell (p := ⟨w.heap.size, 0, none⟩) (.inr (Nat.le_refl _)) _).setCell (p := ⟨w.heap.size, 1, none⟩) (.inr (Nat.le_refl _)) _).setCell (p := ⟨w.heap.size, 2, none⟩) (.inr (Nat.le_refl _)) _

set_option maxRecDepth 100000 in
set_option maxHeartbeats 1000000 in
theorem take_walk (D i n m g cap : Nat) (cur : Array Value) (xs : List Value) (f t : Int) (A : Option Addr) (dn dc : Nat) (w : World) (hnm : n = m + 1) (hi : i ≤ m) (hn : m + 1 ≤ cap) (hcapm : cap ≤ 9223372036854775807) (hmm : m < 1099511627776)
    (hnb : NB w D (.slice (some ⟨g, 0, none⟩) n cap)) (hg : w.heap[g]? = some (.cells cur 29 (0, 0))) (hsz : cur.size = cap * 3) (hxs : cur.toList.take (n * 3) = xs) (hone : ∀ u ∈ xs, u.oneCell' = true)
    (k0 : w.cell? ⟨g, i * 3, none⟩ = some (.int .i64 f)) (k1 : w.cell? ⟨g, i * 3 + 1, none⟩ = some (.int .i64 t)) (k2 : w.cell? ⟨g, i * 3 + 2, none⟩ = some (.slice A dn dc))
    (hhas : Calls Try.prog 17 #[.pointer (some ⟨D, 0, none⟩), .int .i64 i] (w.alloc zeroPk) (SaysV (.bool true) (w.alloc zeroPk))) :
    Calls Try.prog 11 #[.pointer (some ⟨D, 0, none⟩), .int .i64 i] w (Took D i m g cap xs f t A dn dc w) := by
  have hxs' : cur.toList.take ((m + 1) * 3) = xs := by rw [← hnm]; exact hxs
  have HH := Lib.hid hhas
  have HXL := Lib.hid (show xs.length = (m + 1) * 3 by rw [← hxs', List.length_take]; simp; omega)
  have HFACT := Lib.hid (spl_fact hi hn hsz hxs' (.int .i64 0) (.int .i64 0) (.slice none 0 0))
  have c0 := hnb.c0
  have f0 := hnb.f0
  have hD := heapLt hnb
  have hgl := heapLt hg
  have hgD : g ≠ D := fun e => by
    have := hnb.symm.trans (e ▸ hg)
    simp at this
  have hDg : D ≠ g := fun e => hgD e.symm
  have HNB := Lib.hid hnb
  have HONE := Lib.hid (show ∀ v ∈ xs.drop ((i + 1) * 3), v.oneCell' = true from fun v hv => hone v (List.mem_of_mem_drop hv))
  -- the copy's own world
  generalize hW : ((w.alloc zeroPk).alloc (.cells #[.int .i64 f, .int .i64 t, .slice A dn dc] 29)).drew = W
  have HW := Lib.hid hW
  have HG := Lib.hid (show W.heap[g]? = some (.cells cur 29 (0, 0)) by
    rw [← hW]
    exact heapOld (w := w.alloc zeroPk) (heapOld (w := w) hg))
  have HSRC := Lib.hid (show ∀ j v, (xs.drop ((i + 1) * 3))[j]? = some v → W.cell? ((⟨g, (i + 1) * 3, none⟩ : Addr).add j) = some v from fun j v hv => by
    rw [add_none, cellAt _ HG.out]
    rw [List.getElem?_drop] at hv
    rw [← hxs'] at hv
    rw [List.getElem?_take] at hv
    split at hv
    · rw [← hv]; simp
    · cases hv)
  have HFIT := Lib.hid (show i * 3 + (xs.drop ((i + 1) * 3)).length ≤ cur.size by rw [List.length_drop, HXL.out, hsz]; omega)
  have HCL := Lib.hid (show (xs.drop ((i + 1) * 3)).length = (m - i) * 3 by rw [List.length_drop, HXL.out]; omega)
  have hci : ¬ cap = i := by omega
  have hmin : Nat.min (n - (i + 1)) (n - i) = m - i := by
    show min _ _ = _
    omega
  have HMIN := Lib.hid hmin
  have HKNOW := Lib.hid (show ∀ w2 : World, w2.heap[g]? = some (.cells (spl cur (i * 3) (xs.drop ((i + 1) * 3))) 29 (0, 0)) → Turned (· = g) W w2 →
      w2.cell? ⟨D, 0, none⟩ = some (.slice (some ⟨g, 0, none⟩) n cap) ∧ w2.frozen? ⟨D, 0, none⟩ = false ∧
      (∃ u0 u1 u2, w2.cell? ⟨g, m * 3, none⟩ = some u0 ∧ w2.cell? ⟨g, m * 3 + 1, none⟩ = some u1 ∧ w2.cell? ⟨g, m * 3 + 2, none⟩ = some u2) ∧
      (∀ j, w2.frozen? ⟨g, j, none⟩ = false) ∧ w2.heap[w.heap.size]? = some (.cells #[.int .i64 0, .int .i64 0, .slice none 0 0] 29 (0, 0)) ∧
      w2.heap[w.heap.size + 1]? = some (.cells #[.int .i64 f, .int .i64 t, .slice A dn dc] 29 (0, 0)) ∧ NB w2 D (.slice (some ⟨g, 0, none⟩) n cap) from fun w2 hg2 ht2 => by
    have hWs : W.heap.size = w.heap.size + 1 + 1 := by rw [← hW]; simp
    have hND : NB w2 D (.slice (some ⟨g, 0, none⟩) n cap) := (ht2.block D (by omega) (fun e => hDg e)).trans (by rw [← hW]; exact heapOld (w := w.alloc zeroPk) (heapOld (w := w) hnb))
    have hfs := HFACT.out.1
    have hcell : ∀ j, j < 3 → ∃ u, w2.cell? ⟨g, m * 3 + j, none⟩ = some u := fun j hj => by
      rw [cellAt _ hg2]
      exact ⟨_, Array.getElem?_eq_getElem (by rw [hfs]; omega)⟩
    obtain ⟨u0, e0⟩ := hcell 0 (by omega)
    obtain ⟨u1, e1⟩ := hcell 1 (by omega)
    obtain ⟨u2, e2⟩ := hcell 2 (by omega)
    refine ⟨hND.c0, hND.f0, ⟨u0, u1, u2, e0, e1, e2⟩, fun j => freeAt j hg2, ?_, ?_, hND⟩
    · refine (ht2.block _ (by omega) (fun e => by omega)).trans ?_
      rw [← hW]
      exact heapOld (w := w.alloc zeroPk) (heapNew (w := w) _)
    · refine (ht2.block _ (by omega) (fun e => by omega)).trans ?_
      rw [← hW]
      have := heapNew (w := w.alloc zeroPk) (.cells #[.int .i64 f, .int .i64 t, .slice A dn dc] 29 (0, 0))
      rw [show (w.alloc zeroPk).heap.size = w.heap.size + 1 by simp] at this
      exact this)
  have hi0 : (0 : Int) ≤ (i : Int) := by omega
  have hi1 : (i : Int) < (n : Int) := by omega
  have hi2 : (0 : Int) ≤ (i : Int) + 1 := by omega
  have hi3 : (i : Int) + 1 ≤ (n : Int) := by omega
  have hi4 : (i : Int) ≤ (n : Int) := by omega
  have hnc : (n : Int) ≤ (cap : Int) := by omega
  have hi5 : ((i : Int) + 1).toNat = i + 1 := by omega
  have hwr : IntKind.i64.wrap ((i : Int) + 1) = (i : Int) + 1 := IntWalk.i64_in _ (by omega)
  have hl0 : (0 : Int) ≤ (n : Int) - 1 := by omega
  have hl1 : (n : Int) - 1 < (n : Int) := by omega
  have hl2 : (n : Int) - 1 ≤ (n : Int) := by omega
  have hl3 : (n : Int) - 1 ≤ (cap : Int) := by omega
  have hnn : n ≤ cap := by omega
  have hin : i < n := by omega
  have hn1 : n ≤ 1099511627776 := by omega
  have HNM := Lib.hid hnm
  have hl4 : ((n : Int) - 1).toNat = m := by omega
  clear hhas hnb hxs hxs' hW hmin hone hg hsz hnm hi hn
  by_cases hcap1 : cap = i + 1
  · subst hcap1
    have HSRC0 := Lib.hid (show ∀ j v, (xs.drop ((i + 1) * 3))[j]? = some v → W.cell? ((⟨g, 0, none⟩ : Addr).add j) = some v from fun j v hv => by
      have h1 := (List.getElem?_eq_some_iff.1 hv).1
      have := HCL.out
      have := HNM.out
      omega)
    have HMIN0 := Lib.hid (show Nat.min 0 (n - i) = m - i by have := HNM.out; show min _ _ = _; omega)
    unfold zeroPk at HW HH
    go_enter Try.func11, Try.ntmps11
    go_wp2_with fail
    refine HH.out.mono ?_
    rintro e w1 ⟨rfl, rfl⟩
    go_wp2_with fail
    go_region_held3 (fun w' => w'.cell? ⟨D, 0, none⟩ = some (.slice (some ⟨g, 0, none⟩) n (i + 1))) (go_keep)
      ((rw [HW.out]; refine step_copyN (by rfl) _ _ _ (by rfl) 29 3 Try.underlying26 Try.sizeP g (i * 3) (n - i) 1 ⟨g, 0, none⟩ 0 0 (by rfl) (by rfl) cur _ HG.out (xs.drop ((i + 1) * 3)) (m - i) HMIN0.out HCL.out HSRC0.out HFIT.out HONE.out ?_
        intro w2 hg2 ht2
        obtain ⟨rD, fD, ⟨u0, u1, u2, e0, e1, e2⟩, hfz, hR, hV, hN2⟩ := HKNOW.out w2 hg2 ht2
        have HG2 := Lib.hid hg2; have HT2 := Lib.hid ht2; have HR := Lib.hid hR; have HV := Lib.hid hV; have HN2 := Lib.hid hN2
        have z0 := hfz (m * 3); have z1 := hfz (m * 3 + 1); have z2 := hfz (m * 3 + 2)
        clear hg2 ht2 hR hV hN2 hfz))
    have v0 := (cellAt 0 HV.out).trans (rfl : _ = some (Value.int .i64 f))
    have v1 := (cellAt 1 HV.out).trans (rfl : _ = some (Value.int .i64 t))
    have v2 := (cellAt 2 HV.out).trans (rfl : _ = some (Value.slice A dn dc))
    have r0 := (cellAt 0 HR.out).trans (rfl : _ = some (Value.int .i64 0))
    have r1 := (cellAt 1 HR.out).trans (rfl : _ = some (Value.int .i64 0))
    have r2 := (cellAt 2 HR.out).trans (rfl : _ = some (Value.slice none 0 0))
    have g0 := freeAt 0 HR.out
    have g1 := freeAt 1 HR.out
    have g2 := freeAt 2 HR.out
    clear k0 k1 k2 c0 f0 hi0 hi1 hi2 hi3 hi4 hi5 hwr hci
    go_wp2
    obtain ⟨hend, hY⟩ := took_end HW.out HFACT.out hgl hD hgD HG2.out HT2.out HN2.out HR.out
    obtain ⟨y0, y1, y2, -⟩ := set3 (.int .i64 f) (.int .i64 t) (.slice A dn dc) hY
    exact bodyPost_ret (v := .tuple #[.agg #[.int .i64 f, .int .i64 t, .slice A dn dc], .int .i64 0]) (by simp [results, Try.results11, go_sem, y0, y1, y2]) rfl ⟨rfl, hend⟩
  · unfold zeroPk at HW HH
    go_enter Try.func11, Try.ntmps11
    go_wp2_with fail
    refine HH.out.mono ?_
    rintro e w1 ⟨rfl, rfl⟩
    go_wp2_with fail
    go_region_held3 (fun w' => w'.cell? ⟨D, 0, none⟩ = some (.slice (some ⟨g, 0, none⟩) n cap)) (go_keep)
      ((rw [HW.out]; refine step_copyN (by rfl) _ _ _ (by rfl) 29 3 Try.underlying26 Try.sizeP g (i * 3) (n - i) (cap - i) ⟨g, (i + 1) * 3, none⟩ (n - (i + 1)) (cap - (i + 1)) (by rfl) (by rfl) cur _ HG.out (xs.drop ((i + 1) * 3)) (m - i) HMIN.out HCL.out HSRC.out HFIT.out HONE.out ?_
        intro w2 hg2 ht2
        obtain ⟨rD, fD, ⟨u0, u1, u2, e0, e1, e2⟩, hfz, hR, hV, hN2⟩ := HKNOW.out w2 hg2 ht2
        have HG2 := Lib.hid hg2; have HT2 := Lib.hid ht2; have HR := Lib.hid hR; have HV := Lib.hid hV; have HN2 := Lib.hid hN2
        have z0 := hfz (m * 3); have z1 := hfz (m * 3 + 1); have z2 := hfz (m * 3 + 2)
        clear hg2 ht2 hR hV hN2 hfz))
    have v0 := (cellAt 0 HV.out).trans (rfl : _ = some (Value.int .i64 f))
    have v1 := (cellAt 1 HV.out).trans (rfl : _ = some (Value.int .i64 t))
    have v2 := (cellAt 2 HV.out).trans (rfl : _ = some (Value.slice A dn dc))
    have r0 := (cellAt 0 HR.out).trans (rfl : _ = some (Value.int .i64 0))
    have r1 := (cellAt 1 HR.out).trans (rfl : _ = some (Value.int .i64 0))
    have r2 := (cellAt 2 HR.out).trans (rfl : _ = some (Value.slice none 0 0))
    have g0 := freeAt 0 HR.out
    have g1 := freeAt 1 HR.out
    have g2 := freeAt 2 HR.out
    clear k0 k1 k2 c0 f0 hi0 hi1 hi2 hi3 hi4 hi5 hwr hcap1 hci
    go_wp2
    obtain ⟨hend, hY⟩ := took_end HW.out HFACT.out hgl hD hgD HG2.out HT2.out HN2.out HR.out
    obtain ⟨y0, y1, y2, -⟩ := set3 (.int .i64 f) (.int .i64 t) (.slice A dn dc) hY
    exact bodyPost_ret (v := .tuple #[.agg #[.int .i64 f, .int .i64 t, .slice A dn dc], .int .i64 0]) (by simp [results, Try.results11, go_sem, y0, y1, y2]) rfl ⟨rfl, hend⟩

theorem cellsOf_one {w : World} {F : Nat → Prop} {ss : List Sp} (h : ∀ s ∈ ss, PkAt w F s) : ∀ u ∈ cellsOf ss, u.oneCell' = true := by
  intro u hu
  obtain ⟨s, hs, hu⟩ := List.mem_flatMap.1 hu
  obtain ⟨A, c, hv, _⟩ := (h s hs).1.open_
  simp only [Sp.cells, List.mem_cons, List.not_mem_nil, or_false] at hu
  rcases hu with rfl | rfl | rfl
  · rfl
  · rfl
  · rw [hv]; rfl

theorem cellsOf_erase (ss : List Sp) (i : Nat) : cellsOf (ss.eraseIdx i) = (cellsOf ss).take (i * 3) ++ (cellsOf ss).drop ((i + 1) * 3) := by
  induction ss generalizing i with
  | nil => simp [cellsOf]
  | cons a r ih =>
    have e : cellsOf (a :: r) = .int .i64 a.p.src :: .int .i64 a.p.dst :: a.v :: cellsOf r := rfl
    cases i with
    | zero => rw [e]; simp
    | succ j =>
      rw [List.eraseIdx_cons_succ, e, show (j + 1) * 3 = j * 3 + 3 by omega, show (j + 1 + 1) * 3 = (j + 1) * 3 + 3 by omega]
      have := ih j
      show _ :: _ :: _ :: cellsOf (r.eraseIdx j) = _
      rw [this]
      simp

theorem erase_map (ss : List Sp) (i : Nat) : (ss.eraseIdx i).map Sp.p = (ss.map Sp.p).eraseIdx i := by
  induction ss generalizing i with
  | nil => simp
  | cons a r ih =>
    cases i with
    | zero => simp
    | succ j => simp [ih]

/-- the packet that was taken: its own memory, and the network without it -/
def TakePk (F : Nat → Prop) (D : Nat) (p : Pk) (ps : List Pk) (w : World) (e : Ending) (w' : World) : Prop :=
  ∃ A c, e = .returned (.tuple #[.agg #[.int .i64 p.src, .int .i64 p.dst, .slice A p.data.length c], .int .i64 0]) ∧ Own w' 0 5 (.slice A p.data.length c) p.data ∧
    ∃ F', NetAt w' F' D ps ∧ (∀ k, F' k → F k) ∧ (∀ k, (Value.slice A p.data.length c).ownBlock = some k → F k ∧ ¬ F' k) ∧ Turned F w w'

theorem take_any (D i : Nat) (F : Nat → Prop) (ps : List Pk) (w : World) (h : NetAt w F D ps) (hi : i < ps.length) (hps : ps.length ≤ 1099511627776) :
    Calls Try.prog 11 #[.pointer (some ⟨D, 0, none⟩), .int .i64 i] w (TakePk F D ps[i] (ps.eraseIdx i) w) := by
  have hhas := has_any D F ps i _ (h.alloc zeroPk) (by omega) (by omega)
  rw [there_nat hi] at hhas
  obtain ⟨v, ss, h1, h2, h3, h4, h5, h6, h7, h8⟩ := h
  have hl : ss.length = ps.length := by rw [← h5]; simp
  have hrow := h3
  rcases h3.2 with ⟨rfl, h0⟩ | ⟨g, cap, cur, rfl, hg, hh, hnc, hcm, hsz, hxs⟩
  · omega
  · have his : i < ss.length := by omega
    have hpi : ps[i] = ss[i].p := by subst h5; simp
    obtain ⟨a1, a2, a3⟩ := h7 ss[i] (List.getElem_mem his)
    obtain ⟨A, c, hv, hrd⟩ := a1.open_
    obtain ⟨k1, k2, k3⟩ := cellsOf_at his
    have hat : ∀ j, j < 3 → w.cell? ⟨g, i * 3 + j, none⟩ = (cellsOf ss)[i * 3 + j]? := fun j hj => World.ownsRow.cellAt hrow (i * 3 + j) (by omega)
    have hcm' : cap ≤ 9223372036854775807 := by simpa only [maxLen] using hcm
    refine (take_walk D i ss.length (ss.length - 1) g cap cur (cellsOf ss) ss[i].p.src ss[i].p.dst A ss[i].p.data.length c w (by omega) (by omega) (by omega) hcm' (by omega) h1 hh hsz hxs (cellsOf_one h7)
      ((hat 0 (by omega)).trans k1) ((hat 1 (by omega)).trans k2) (by rw [← hv]; exact (hat 2 (by omega)).trans k3) hhas).mono ?_
    rintro e w' ⟨he, hn', ⟨cur', hc1, hc2, hc3⟩, ht⟩
    have hgF : F g := h4 g rfl
    have hle : (ss.eraseIdx i).length = ss.length - 1 := by rw [List.length_eraseIdx, if_pos his]
    have hnD : ∀ s ∈ ss, ∀ k, s.v.ownBlock = some k → ¬ (k = D ∨ k = g) := fun s hs k hk => by
      rintro (e1 | e1)
      · exact h1.ne_own (h7 s hs).1 (by rw [hk, e1])
      · exact row_ne_own hrow (h7 s hs).1 (by rw [e1]; rfl) hk
    have hap : ∀ s ∈ ss.eraseIdx i, ApartP ss[i] s := fun s hs => by
      obtain ⟨j, hj, hji, rfl⟩ : ∃ j, ∃ hj : j < ss.length, j ≠ i ∧ ss[j] = s := by
        obtain ⟨j, hji, hj⟩ := List.mem_eraseIdx_iff_getElem?.1 hs
        obtain ⟨hlt, e⟩ := List.getElem?_eq_some_iff.1 hj
        exact ⟨j, hlt, hji, e⟩
      rcases Nat.lt_or_ge j i with hlt | hge
      · intro k hk e2
        exact (List.pairwise_iff_getElem.1 h6 j i hj his hlt) k e2 hk
      · exact List.pairwise_iff_getElem.1 h6 i j his hj (by omega)
    rw [hpi]
    refine ⟨A, c, he, ?_, fun k => F k ∧ ss[i].v.ownBlock ≠ some k, ⟨_, ss.eraseIdx i, hn', ⟨h2, fun e1 => hnD _ (List.getElem_mem his) D e1 (.inl rfl)⟩, ?_, ?_, ?_, h6.sublist (List.eraseIdx_sublist ss i), ?_, ?_⟩, fun k hk => hk.1, ?_, ?_⟩
    · rw [← hv]
      exact a1.turned ht (fun k hk => hnD _ (List.getElem_mem his) k hk)
    · refine ⟨by rw [cellsOf_len], .inr ⟨g, cap, cur', by rw [hle], Nat.zero_le _, hc1, by rw [hle]; omega, hcm, hc2, ?_⟩⟩
      rw [hle, hc3, cellsOf_erase]
    · intro k hk
      injection hk with hk
      subst hk
      exact ⟨hgF, fun e1 => hnD _ (List.getElem_mem his) g e1 (.inr rfl)⟩
    · rw [← h5, erase_map]
    · intro s hs
      have hs' := List.mem_of_mem_eraseIdx hs
      refine ⟨(h7 s hs').1.turned ht (fun k hk => hnD s hs' k hk), fun k hk => ⟨(h7 s hs').2.1 k hk, fun e1 => hap s hs k e1 hk⟩, (h7 s hs').2.2⟩
    · intro k hk
      exact Nat.lt_of_lt_of_le (h8 k hk.1) ht.size
    · intro k hk
      rw [← hv] at hk
      exact ⟨a2 k hk, fun hk2 => hk2.2 hk⟩
    · exact ht.more (fun k _ hk => by
        rcases hk with rfl | rfl
        · exact h2
        · exact hgF)
end Go.Proofs.Ytmhkpdfmjapdnaa
