/-
  What a log's Append, Sync and Len do, by contracts.
-/
import Derived.Test.YtbhginnfkmajgaaWalD
import Derived.Deep.RegionLaw
import Derived.Great.BuildSlice
namespace Go.Proofs.Ytbhginnfkmajgaa
open Go.RowKit Mem FM
set_option linter.unusedVariables false
set_option maxRecDepth 100000
attribute [local go_sem ↓] Go.wp_at_zero Go.wp_at_succ

/-- a call of a Go function, as a step of a region that draws its order -/
theorem step_call {P : Program} {ops : Array Oper} {o : Oper} {a : Act} {w : World} {K : Act → World → Prop} {Q : Exit → Act → World → Prop} {E : Prop} (hgd : o.guard = none) (f : FuncId) (args : Array Value) (hrun : (execOp a.eval o).run P w = .ok (.enter f args) w)
    {X : Type} (val : X → Value) (S : X → World → Prop) (hc : Calls P f args w (fun e w' => ∃ x, e = .returned (val x) ∧ S x w')) (h : ∀ x w', S x w' → K (a.put o.dst (val x)) w') :
    if Region.wanted o (yielded ops a.tmps) = true then Oper.wp P o a w K Q else E := by
  have hw : Region.wanted o (yielded ops a.tmps) = true := by simp [Region.wanted, hgd]
  rw [if_pos hw]
  unfold Oper.wp
  rw [hrun, Oper.upon_enter]
  refine hc.mono fun e w'' hh => ?_
  obtain ⟨x, rfl, hS⟩ := hh
  exact h x _ hS

set_option maxHeartbeats 400000 in
theorem len_any (G D : Nat) (F : Nat → Prop) (nm : ByteArray) (rs : List Rec) (w : World) (h : LogAt w F G D nm rs) : Calls Try.prog 16 #[.pointer (some ⟨G, 0, none⟩)] w (fun e w' => e = .returned (.int .i64 rs.length) ∧ w' = w) := by
  obtain ⟨v, h1, _, h3, _⟩ := h
  obtain ⟨A, c, rfl, hc, hcm⟩ := h3.form
  have c2 := h1.c2
  clear h1 h3
  generalize rs.length = n at *
  go_enter Try.func16, Try.ntmps16
  go_wp2
  go_ret
  exact ⟨rfl, rfl⟩

/-- a log's Sync -/
def lsyncR (s : St) (nm : ByteArray) (n : Nat) : Int × St := if (synced s nm).1 = 8 ∧ n = 0 then (0, (synced s nm).2) else synced s nm

set_option maxHeartbeats 1000000 in
theorem lsync_any (D G : Nat) (F FL : Nat → Prop) (s : St) (nm : ByteArray) (rs : List Rec) (w : World) (h : DiskAt w F D s) (hl : LogAt w FL G D nm rs) (hap : ∀ k, FL k → ¬ F k) (hn : nm.size ≤ 100) (hops : s.ops + 1 < 1099511627776) :
    Calls Try.prog 9 #[.pointer (some ⟨G, 0, none⟩)] w (Did F D (lsyncR s nm rs.length).1 (lsyncR s nm rs.length).2 w) := by
  obtain ⟨v, h1, h2, h3, _⟩ := hl
  obtain ⟨A, c, rfl, hc, hcm⟩ := h3.form
  have c0 := h1.c0; have c1 := h1.c1
  have HLB := Lib.hid h1
  have HSY := Lib.hid (sync_any D F s nm w.drew h.drew (by omega) hops)
  have HG := Lib.hid (hap G h2)
  have hGl := h1.lt
  have HE := Lib.hid (show lsyncR s nm rs.length = if (synced s nm).1 = 8 ∧ rs.length = 0 then (0, (synced s nm).2) else synced s nm from rfl)
  clear h h1 h3 hap h2
  generalize synced s nm = rr at *
  obtain ⟨x, s'⟩ := rr
  simp only at HE HSY
  generalize rs.length = n at *
  by_cases hx : x = 8
  · subst hx
    rcases Nat.eq_zero_or_pos n with hn0 | hn0
    · subst hn0
      have HE2 := Lib.hid (show lsyncR s nm 0 = (0, s') by rw [HE.out]; rfl)
      clear HE
      go_enter Try.func9, Try.ntmps9
      go_wp2_with fail
      go_region_held3 (fun w' => w'.cell? ⟨G, 0, none⟩ = some (.pointer (some ⟨D, 0, none⟩)) ∧ w'.cell? ⟨G, 1, none⟩ = some (.string nm)) (go_keep)
        ((go_at_call 25; refine HSY.out.mono ?_; rintro e w1 ⟨rfl, F', hd1, ht1, hs1⟩
          have q0 := (ht1.cell (p := ⟨G, 0, none⟩) hGl HG.out).trans c0; have q1 := (ht1.cell (p := ⟨G, 1, none⟩) hGl HG.out).trans c1; have q2 := (ht1.cell (p := ⟨G, 2, none⟩) hGl HG.out).trans HLB.out.c2
          have HD1 := Lib.hid hd1; have HT1 := Lib.hid ht1; have HS1 := Lib.hid hs1; clear hd1 ht1 hs1))
      go_wp2
      go_ret
      rw [HE2.out]
      exact ⟨rfl, F', HD1.out, HT1.out.undrew, HS1.out⟩
    · have HE2 := Lib.hid (show lsyncR s nm n = (8, s') by rw [HE.out, if_neg (by simp; omega)])
      clear HE
      go_enter Try.func9, Try.ntmps9
      go_wp2_with fail
      go_region_held3 (fun w' => w'.cell? ⟨G, 0, none⟩ = some (.pointer (some ⟨D, 0, none⟩)) ∧ w'.cell? ⟨G, 1, none⟩ = some (.string nm)) (go_keep)
        ((go_at_call 25; refine HSY.out.mono ?_; rintro e w1 ⟨rfl, F', hd1, ht1, hs1⟩
          have q0 := (ht1.cell (p := ⟨G, 0, none⟩) hGl HG.out).trans c0; have q1 := (ht1.cell (p := ⟨G, 1, none⟩) hGl HG.out).trans c1; have q2 := (ht1.cell (p := ⟨G, 2, none⟩) hGl HG.out).trans HLB.out.c2
          have HD1 := Lib.hid hd1; have HT1 := Lib.hid ht1; have HS1 := Lib.hid hs1; clear hd1 ht1 hs1))
      go_wp2
      go_ret
      rw [HE2.out]
      exact ⟨rfl, F', HD1.out, HT1.out.undrew, HS1.out⟩
  · have hq : (x != 8) = true := by simpa using hx
    have HE2 := Lib.hid (show lsyncR s nm n = (x, s') by rw [HE.out, if_neg (by simp [hx])])
    clear HE
    go_enter Try.func9, Try.ntmps9
    go_wp2_with fail
    go_region_held3 (fun w' => w'.cell? ⟨G, 0, none⟩ = some (.pointer (some ⟨D, 0, none⟩)) ∧ w'.cell? ⟨G, 1, none⟩ = some (.string nm)) (go_keep)
      ((go_at_call 25; refine HSY.out.mono ?_; rintro e w1 ⟨rfl, F', hd1, ht1, hs1⟩
        have q0 := (ht1.cell (p := ⟨G, 0, none⟩) hGl HG.out).trans c0; have q1 := (ht1.cell (p := ⟨G, 1, none⟩) hGl HG.out).trans c1; have q2 := (ht1.cell (p := ⟨G, 2, none⟩) hGl HG.out).trans HLB.out.c2
        have HD1 := Lib.hid hd1; have HT1 := Lib.hid ht1; have HS1 := Lib.hid hs1; clear hd1 ht1 hs1))
    go_wp2
    go_ret
    rw [HE2.out]
    exact ⟨rfl, F', HD1.out, HT1.out.undrew, HS1.out⟩

/-- the disk and the log behind a call of the log -/
def WalDid (F FL : Nat → Prop) (D G : Nat) (x : Int) (s' : St) (nm : ByteArray) (ls : List (List UInt8)) (w : World) (e : Ending) (w' : World) : Prop :=
  e = .returned (.int .i64 x) ∧ ∃ F' FL' rs, DiskAt w' F' D s' ∧ LogAt w' FL' G D nm rs ∧ recs rs = ls ∧ (∀ k, FL' k → ¬ F' k) ∧ Turned (fun k => F k ∨ FL k) w w' ∧ Spread F F' w ∧ Spread FL FL' w

def CloneAt (l : List UInt8) (w : World) (v : Value) (w' : World) : Prop := Own w' w.heap.size 5 v l ∧ Below w.heap.size w w'
theorem clone_at (B : Nat) (A : Option Addr) (n c : Nat) (l : List UInt8) (w : World) (hr : Rd w B A n c l) (hB : B ≤ w.heap.size) (hl : l.length ≤ 140737488355328) : Calls Try.prog 24 #[.slice A n c] w (fun e w' => ∃ v, e = .returned v ∧ CloneAt l w v w') := clone_any B A n c l w hr hB hl

theorem log_more {w w1 w2 : World} {FL : Nat → Prop} {G D gg cap : Nat} {nm : ByteArray} {v : Value} {r : Rec} {rs : List Rec} {o : Obj} (hl : LB w G D nm v) (hG : FL G) (hrec : RecsAt w FL v rs) (hft : ∀ k, FL k → k < w.heap.size)
    (hb1 : Below w.heap.size w w1) (hown : Own w1 w.heap.size 5 r.v r.l) (hlen : r.l.length ≤ 65535) (hrow : w2.ownsRow 0 34 1 (.slice (some ⟨gg, 0, none⟩) (rs.length + 1) cap) (rs.length + 1) (rs.map Rec.v ++ [r.v])) (hgrow : (w1.alloc o).grownBy w2 v.ownBlock) (hat : v.ownBlock = some gg ∨ gg = w1.heap.size + 1) :
    LogAt (w2.setCell ⟨G, 2, none⟩ (.slice (some ⟨gg, 0, none⟩) (rs.length + 1) cap)) (fun k => FL k ∨ (w.heap.size ≤ k ∧ k < w2.heap.size)) G D nm (rs ++ [r]) ∧ Turned FL w (w2.setCell ⟨G, 2, none⟩ (.slice (some ⟨gg, 0, none⟩) (rs.length + 1) cap)) := by
  have hGv : v.ownBlock ≠ some G := fun hk => by
    obtain ⟨cur, hh⟩ := row_block hrec.1 hk
    have := hl.symm.trans hh
    simp at this
  have hw1 : w.heap.size ≤ w1.heap.size := hb1.size
  have hw2 : w1.heap.size + 1 ≤ w2.heap.size := by have := hgrow.size; simpa using this
  have hgl : gg < w2.heap.size := (hrow.lt gg rfl).2
  have hT1 : Turned FL w w2 := ((Turned.of_below hb1).alloc o).grown hgrow (fun k hk => .inl (hrec.2.1 k hk))
  have hl2 : LB w2 G D nm v := by
    have e1 : w1.heap[G]? = w.heap[G]? := hb1.block G hl.lt
    have e2 : w2.heap[G]? = w1.heap[G]? := (hgrow.block G (by have := hl.lt; simp; omega) (Ne.symm hGv)).trans (Below.heap_alloc w1 o G (by have := hl.lt; omega))
    exact (e2.trans e1).trans hl
  have hrec1 : RecsAt w1 (fun k => FL k ∨ (w.heap.size ≤ k ∧ k < w2.heap.size)) v rs := (hrec.below hb1).more (fun k hk => .inl hk)
  have hrec2 := hrec1.grow (gg := gg) (cap := cap) (r := r) (o := o) (hown.less (Nat.zero_le _)) hlen (fun k hk => .inr ⟨(hown.lt k hk).1, by have := (hown.lt k hk).2; omega⟩) (hat.imp id (fun e => .inr ⟨by omega, hgl⟩)) hrow hgrow
  have hT2 : Turned (· = G) w2 (w2.setCell ⟨G, 2, none⟩ (.slice (some ⟨gg, 0, none⟩) (rs.length + 1) cap)) := (Turned.refl (· = G) w2).setCell (p := ⟨G, 2, none⟩) (.inl rfl) _
  have hs : (w2.setCell ⟨G, 2, none⟩ (.slice (some ⟨gg, 0, none⟩) (rs.length + 1) cap)).heap.size = w2.heap.size := by simp [World.setCell]
  refine ⟨⟨_, hl2.s2 _, .inl hG, ?_, fun k hk => ?_⟩, hT1.trans (hT2.more (fun k _ e => by rw [e]; exact hG))⟩
  · refine ⟨row_turned hrec2.1 hT2 (fun k hk e => ?_), hrec2.2.1, fun s hs2 => ⟨(hrec2.2.2 s hs2).1.turned hT2 (fun k hk e => ?_), (hrec2.2.2 s hs2).2⟩⟩
    · obtain ⟨cur, hh⟩ := row_block hrec2.1 hk
      rw [e] at hh
      have := hl2.symm.trans hh
      simp at this
    · obtain ⟨cur, hh⟩ := own_heap (hrec2.2.2 s hs2).1 hk
      rw [e] at hh
      have := hl2.symm.trans hh
      simp at this
  · rw [hs]
    rcases hk with hk | hk
    · have := hft k hk; omega
    · exact hk.2
end Go.Proofs.Ytbhginnfkmajgaa
