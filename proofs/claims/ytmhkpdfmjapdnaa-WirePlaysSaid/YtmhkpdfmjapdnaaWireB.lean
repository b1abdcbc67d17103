/-
  A network in memory ('NetAt'), and what Send, Len and has do.
-/
import Derived.Test.YtmhkpdfmjapdnaaWireA
import Derived.Deep.RegionLaw
import Derived.Great.BuildSlice
import Derived.Deep.AppendLies
import Derived.Deep.DrawnRows
namespace Go.Proofs.Ytmhkpdfmjapdnaa
open Go.RowKit Mem
attribute [local go_sem ↓] Go.wp_at_zero Go.wp_at_succ

theorem Try.infoP : (Try.prog.info? 29).map (fun i => (i.zero, i.size, i.bytes)) = some (some (.agg #[.int .i64 0, .int .i64 0, .slice none 0 0]), 3, 40) := by kernel_rfl

/-- a packet that lies in the row: what it is, and its slice -/
structure Sp where
  p : Pk
  v : Value
def Sp.cells (s : Sp) : List Value := [.int .i64 s.p.src, .int .i64 s.p.dst, s.v]
def cellsOf (l : List Sp) : List Value := l.flatMap Sp.cells
theorem cellsOf_len (l : List Sp) : (cellsOf l).length = l.length * 3 := by
  induction l with
  | nil => rfl
  | cons a r ih => show (a.cells ++ cellsOf r).length = _; rw [List.length_append, ih]; simp [Sp.cells]; omega
theorem cellsOf_app (l r : List Sp) : cellsOf (l ++ r) = cellsOf l ++ cellsOf r := by simp [cellsOf]
theorem cellsOf_at {l : List Sp} {i : Nat} (hi : i < l.length) : (cellsOf l)[i * 3]? = some (.int .i64 l[i].p.src) ∧ (cellsOf l)[i * 3 + 1]? = some (.int .i64 l[i].p.dst) ∧ (cellsOf l)[i * 3 + 2]? = some l[i].v := by
  induction l generalizing i with
  | nil => simp at hi
  | cons a r ih =>
    have e : cellsOf (a :: r) = .int .i64 a.p.src :: .int .i64 a.p.dst :: a.v :: cellsOf r := rfl
    rw [e]
    cases i with
    | zero => simp
    | succ j =>
      have := ih (i := j) (by simpa using hi)
      rw [show (j + 1) * 3 = j * 3 + 3 by omega]
      simpa using this

def PkAt (w : World) (F : Nat → Prop) (s : Sp) : Prop := Own w 0 5 s.v s.p.data ∧ (∀ k, s.v.ownBlock = some k → F k) ∧ s.p.data.length ≤ 140737488355328
def ApartP (a b : Sp) : Prop := ∀ k, a.v.ownBlock = some k → b.v.ownBlock ≠ some k
def NB (w : World) (D : Nat) (v : Value) : Prop := w.heap[D]? = some (.cells #[v] 45 (0, 0))

/-- block D is a network of the packets ps; all its blocks are of F -/
def NetAt (w : World) (F : Nat → Prop) (D : Nat) (ps : List Pk) : Prop :=
  ∃ v ss, NB w D v ∧ F D ∧ w.ownsRow 0 29 3 v ss.length (cellsOf ss) ∧ (∀ k, v.ownBlock = some k → F k) ∧ ss.map Sp.p = ps ∧ ss.Pairwise ApartP ∧ (∀ s ∈ ss, PkAt w F s) ∧ ∀ k, F k → k < w.heap.size

section
variable {w w' : World} {F F' G : Nat → Prop} {D : Nat} {ps : List Pk} {v : Value}
theorem ownsRow_turned {base n size : Nat} {e : TypeId} {xs : List Value} (h : w.ownsRow base e size v n xs) (ht : Turned G w w') (hn : ∀ k, v.ownBlock = some k → ¬ G k) : w'.ownsRow base e size v n xs := by
  refine ⟨h.1, ?_⟩
  rcases h.2 with h2 | ⟨g, cap, cur, rfl, hg, hh, r⟩
  · exact .inl h2
  · exact .inr ⟨g, cap, cur, rfl, hg, (ht.block g (Array.getElem?_eq_some_iff.1 hh).1 (hn g rfl)).trans hh, r⟩
theorem PkAt.turned {s : Sp} (h : PkAt w F s) (ht : Turned G w w') (hd : ∀ k, F k → ¬ G k) (hF : ∀ k, F k → F' k) : PkAt w' F' s :=
  ⟨h.1.turned ht (fun k hk => hd k (h.2.1 k hk)), fun k hk => hF k (h.2.1 k hk), h.2.2⟩
theorem NetAt.far (h : NetAt w F D ps) (ht : Turned G w w') (hd : ∀ k, F k → ¬ G k) : NetAt w' F D ps := by
  obtain ⟨v, ss, h1, h2, h3, h4, h5, h6, h7, h8⟩ := h
  exact ⟨v, ss, (ht.block D (heapLt h1) (hd D h2)).trans h1, h2, ownsRow_turned h3 ht (fun k hk => hd k (h4 k hk)), h4, h5, h6, fun s hs => (h7 s hs).turned ht hd (fun _ h => h), fun k hk => Nat.lt_of_lt_of_le (h8 k hk) ht.size⟩
theorem NetAt.below (h : NetAt w F D ps) (hb : Below w.heap.size w w') : NetAt w' F D ps := h.far (G := fun _ => False) (Turned.of_below hb) (fun _ _ h => h)
theorem NetAt.foot (h : NetAt w F D ps) {k : Nat} (hk : F k) : k < w.heap.size := by
  obtain ⟨v, ss, h1, h2, h3, h4, h5, h6, h7, h8⟩ := h
  exact h8 k hk
theorem NetAt.alloc (h : NetAt w F D ps) (o : Obj) : NetAt (w.alloc o) F D ps := h.below ((Below.refl _ w).alloc (Nat.le_refl _) o)
theorem own_kind {l : List UInt8} {k : Nat} {e : TypeId} {b : Nat} (h : Own w b e v l) (hk : v.ownBlock = some k) : ∃ cur, w.heap[k]? = some (.cells cur e (0, 0)) := by
  rcases h.2 with ⟨rfl, _⟩ | ⟨g, cap, cur, rfl, _, hh, _⟩
  · cases hk
  · simp only [Value.ownBlock, Option.some.injEq] at hk
    subst hk
    exact ⟨cur, hh⟩
theorem row_kind {n size base : Nat} {e : TypeId} {xs : List Value} {k : Nat} (h : w.ownsRow base e size v n xs) (hk : v.ownBlock = some k) : ∃ cur, w.heap[k]? = some (.cells cur e (0, 0)) := by
  rcases h.2 with ⟨rfl, _⟩ | ⟨g, cap, cur, rfl, _, hh, _⟩
  · cases hk
  · simp only [Value.ownBlock, Option.some.injEq] at hk
    subst hk
    exact ⟨cur, hh⟩
theorem NB.c0 (h : NB w D v) : w.cell? ⟨D, 0, none⟩ = some v := (cellAt 0 h).trans rfl
theorem NB.f0 (h : NB w D v) : w.frozen? ⟨D, 0, none⟩ = false := freeAt 0 h
theorem NB.s0 (h : NB w D v) (u : Value) : NB (w.setCell ⟨D, 0, none⟩ u) D u := (heapSet 0 u h).trans rfl
theorem NB.ne_row {n : Nat} {xs : List Value} {u : Value} (h : NB w D v) (hr : w.ownsRow 0 29 3 u n xs) : u.ownBlock ≠ some D := by
  intro hk
  obtain ⟨cur, hh⟩ := row_kind hr hk
  have := h.symm.trans hh
  simp at this
theorem NB.ne_own {l : List UInt8} {u : Value} {b : Nat} (h : NB w D v) (hr : Own w b 5 u l) : u.ownBlock ≠ some D := by
  intro hk
  obtain ⟨cur, hh⟩ := own_kind hr hk
  have := h.symm.trans hh
  simp at this
theorem row_ne_own {l : List UInt8} {u : Value} {b n k : Nat} {xs : List Value} (hw : w.ownsRow 0 29 3 v n xs) (hr : Own w b 5 u l) (hk : v.ownBlock = some k) : u.ownBlock ≠ some k := by
  intro hk2
  obtain ⟨cur, hh⟩ := own_kind hr hk2
  obtain ⟨cur2, hh2⟩ := row_kind hw hk
  have := hh2.symm.trans hh
  simp at this
end

/-- a call of a Go function, as a step of a region that draws its order -/
theorem step_call {P : Program} {ops : Array Oper} {o : Oper} {a : Act} {w : World} {K : Act → World → Prop} {Q : Exit → Act → World → Prop} {E : Prop} (hgd : o.guard = none) (f : FuncId) (args : Array Value) (hrun : (execOp a.eval o).run P w = .ok (.enter f args) w)
    {X : Type} (val : X → Value) (S : X → World → Prop) (hc : Calls P f args w (fun e w' => ∃ x, e = .returned (val x) ∧ S x w')) (h : ∀ x w', S x w' → K (a.put o.dst (val x)) w') :
    if Region.wanted o (yielded ops a.tmps) = true then Oper.wp P o a w K Q else E := by
  have hw : Region.wanted o (yielded ops a.tmps) = true := by simp [Region.wanted, hgd]
  rw [if_pos hw]
  unfold Oper.wp
  rw [hrun, Oper.upon_enter]
  refine hc.mono fun e w'' hh => ?_
  obtain ⟨x, rfl, hS⟩ := hh
  exact h x _ hS

def NetDid (F : Nat → Prop) (D : Nat) (ps : List Pk) (r : Value) (w : World) (e : Ending) (w' : World) : Prop :=
  e = .returned r ∧ ∃ F', NetAt w' F' D ps ∧ Turned F w w' ∧ Spread F F' w

set_option maxRecDepth 100000 in
set_option maxHeartbeats 400000 in
theorem send_nil (w : World) (f t : Int) (A : Option Addr) (n c : Nat) : Calls Try.prog 9 #[.pointer none, .agg #[.int .i64 f, .int .i64 t, .slice A n c]] w (fun e w' => e = .returned (.tuple #[]) ∧ Below w.heap.size w w') := by
  go_enter Try.func9, Try.ntmps9
  go_wp2
  refine bodyPost_end (results_none rfl _ _ _) rfl ?_
  exact ⟨rfl, (Below.refl _ w).alloc (Nat.le_refl _) _⟩

theorem turned_send {w w1 w2 : World} {v u : Value} {D : Nat} {o o1 : Obj} (hb1 : Below (w.alloc o).drew.heap.size (w.alloc o).drew w1) (hgrow : (w1.alloc o1).grownBy w2 v.ownBlock) : Turned (fun k => k = D ∨ v.ownBlock = some k) w (w2.setCell ⟨D, 0, none⟩ u) := by
  have ha : Below w.heap.size w w1 := ((Below.refl _ w).alloc (Nat.le_refl _) o).trans (below_undrew (hb1.mono (by simp)))
  have hT : Turned (fun k => k = D ∨ v.ownBlock = some k) w w2 := ((Turned.of_below ha).alloc o1).grown hgrow (fun k hk => .inl (.inr hk))
  exact hT.setCell (p := ⟨D, 0, none⟩) (.inl (.inl rfl)) u

theorem net_sent {w w1 w2 : World} {F : Nat → Prop} {D gg cap g1 : Nat} {v : Value} {ss : List Sp} {p : Pk} {o o1 : Obj} (h1 : NB w D v) (h2 : F D) (h3 : w.ownsRow 0 29 3 v ss.length (cellsOf ss)) (h4 : ∀ k, v.ownBlock = some k → F k) (h6 : ss.Pairwise ApartP) (h7 : ∀ s ∈ ss, PkAt w F s) (h8 : ∀ k, F k → k < w.heap.size)
    (hb1 : Below (w.alloc o).drew.heap.size (w.alloc o).drew w1) (hown1 : Own w1 (w.alloc o).drew.heap.size 5 (slOf g1 p.data) p.data) (hnb : (w.alloc o).drew.heap.size ≤ g1) (hgrow : (w1.alloc o1).grownBy w2 v.ownBlock)
    (hown2 : w2.ownsRow 0 29 3 (.slice (some ⟨gg, 0, none⟩) (ss.length + 1) cap) (ss.length + 1) (cellsOf ss ++ [.int .i64 p.src, .int .i64 p.dst, slOf g1 p.data])) (hat : v.ownBlock = some gg ∨ gg = w1.heap.size + 1) (hp : p.data.length ≤ 140737488355328) :
    ∃ F', NetAt (w2.setCell ⟨D, 0, none⟩ (.slice (some ⟨gg, 0, none⟩) (ss.length + 1) cap)) F' D (ss.map Sp.p ++ [p]) ∧ Turned F w (w2.setCell ⟨D, 0, none⟩ (.slice (some ⟨gg, 0, none⟩) (ss.length + 1) cap)) ∧ Spread F F' w := by
  have hsz : (w.alloc o).drew.heap.size = w.heap.size + 1 := by simp
  rw [hsz] at hown1 hnb
  have hT := turned_send (D := D) (u := .slice (some ⟨gg, 0, none⟩) (ss.length + 1) cap) hb1 hgrow
  have hs1 : w.heap.size + 1 ≤ w1.heap.size := by have := hb1.size; rwa [hsz] at this
  have hs2 : w1.heap.size + 1 ≤ w2.heap.size := by have := hgrow.size; simpa using this
  have hD := heapLt h1
  have hvD := h1.ne_row h3
  have hg1lt : g1 < w1.heap.size := (hown1.lt g1 rfl).2
  have hNB2 : NB w2 D v := by
    have e1 : w1.heap[D]? = w.heap[D]? := (hb1.block D (by rw [hsz]; omega)).trans (Below.heap_alloc w o D hD)
    have e2 : w2.heap[D]? = w1.heap[D]? := (hgrow.block D (by simp; omega) (Ne.symm hvD)).trans (Below.heap_alloc w1 o1 D (by omega))
    exact (e2.trans e1).trans h1
  have hggD : gg ≠ D := fun e => hNB2.ne_row hown2 (by rw [e]; rfl)
  have hgglt : gg < w2.heap.size := (hown2.lt gg rfl).2
  have hfs : (w2.setCell ⟨D, 0, none⟩ (.slice (some ⟨gg, 0, none⟩) (ss.length + 1) cap)).heap.size = w2.heap.size := by simp [World.setCell]
  have hnew : Own (w2.setCell ⟨D, 0, none⟩ (.slice (some ⟨gg, 0, none⟩) (ss.length + 1) cap)) 0 5 (slOf g1 p.data) p.data := by
    have a1 : Own (w1.alloc o1) 0 5 (slOf g1 p.data) p.data := (hown1.alloc o1).less (Nat.zero_le _)
    have a2 : Own w2 0 5 (slOf g1 p.data) p.data := a1.kept hgrow (.inr (fun e => by
      have := (h3.lt g1 (by rw [← e]; rfl)).2
      omega))
    refine a2.turned (F := (· = D)) ((Turned.refl (· = D) w2).setCell (p := ⟨D, 0, none⟩) (.inl rfl) _) (fun k hk e => ?_)
    injection hk with hk
    have : g1 = k := hk
    omega
  have hold : ∀ s ∈ ss, PkAt (w2.setCell ⟨D, 0, none⟩ (.slice (some ⟨gg, 0, none⟩) (ss.length + 1) cap)) (fun k => F k ∨ k = gg ∨ k = g1) s := fun s hs => by
    obtain ⟨a1, a2, a3⟩ := h7 s hs
    refine ⟨a1.turned hT (fun k hk => ?_), fun k hk => .inl (a2 k hk), a3⟩
    rintro (e | e)
    · exact h1.ne_own a1 (by rw [hk, e])
    · exact row_ne_own h3 a1 e hk
  refine ⟨fun k => F k ∨ k = gg ∨ k = g1, ⟨_, ss ++ [⟨p, slOf g1 p.data⟩], hNB2.s0 _, .inl h2, ?_, ?_, by simp, ?_, ?_, ?_⟩, ?_, ?_⟩
  · rw [cellsOf_app, List.length_append]
    exact ownsRow_setCell_other hown2 (a := ⟨D, 0, none⟩) (fun e => hggD (by injection e)) _
  · intro k hk
    injection hk with hk
    exact .inr (.inl hk.symm)
  · rw [List.pairwise_append]
    refine ⟨h6, List.pairwise_singleton _ _, fun a ha b hb => ?_⟩
    simp only [List.mem_singleton] at hb
    subst hb
    intro k hk e
    injection e with e
    have e : g1 = k := e
    have := h8 k ((h7 a ha).2.1 k hk)
    omega
  · intro s hs
    rcases List.mem_append.1 hs with hs | hs
    · exact hold s hs
    · simp only [List.mem_singleton] at hs
      subst hs
      exact ⟨hnew, fun k hk => by injection hk with hk; exact .inr (.inr hk.symm), hp⟩
  · rw [hfs]
    rintro k (hk | hk | hk)
    · have := h8 k hk; omega
    · omega
    · omega
  · exact hT.more (fun k _ hk => by
      rcases hk with rfl | hk
      · exact h2
      · exact h4 k hk)
  · rintro k (hk | hk | hk)
    · exact .inl hk
    · rcases hat with e | e
      · exact .inl (by rw [hk]; exact h4 gg e)
      · exact .inr (by omega)
    · exact .inr (by omega)

set_option maxRecDepth 100000 in
set_option maxHeartbeats 1000000 in
theorem send_any (D B : Nat) (F : Nat → Prop) (ps : List Pk) (p : Pk) (A : Option Addr) (n c : Nat) (w : World) (h : NetAt w F D ps) (hr : Rd w B A n c p.data) (hB : B ≤ w.heap.size) (hn : n ≤ 140737488355328) (hlen : ps.length + 1 ≤ 1099511627776) :
    Calls Try.prog 9 #[.pointer (some ⟨D, 0, none⟩), .agg #[.int .i64 p.src, .int .i64 p.dst, .slice A n c]] w (NetDid F D (ps ++ [p]) (.tuple #[]) w) := by
  obtain ⟨i0, hi, hz0, hz1, hz2⟩ := info_parts Try.infoP
  have HI := Lib.hid hi; have HZ0 := Lib.hid hz0; have HZ1 := Lib.hid hz1; have HZ2 := Lib.hid hz2
  clear hi hz0 hz1 hz2
  have HNET := Lib.hid h
  obtain ⟨v, ss, h1, h2, h3, h4, h5, h6, h7, h8⟩ := h
  have hl : ss.length = ps.length := by rw [← h5]; simp
  have hD := heapLt h1
  have c0 := h1.c0
  have f0 := h1.f0
  have HV := Lib.hid (h1.ne_row h3)
  have HLEN := Lib.hid hl
  have hss : ss.length + 1 ≤ 1099511627776 := by omega
  have H1 := Lib.hid h1; have H3 := Lib.hid h3
  have HFR := Lib.hid (fresh_any p A n c B (w.alloc (.cells #[.int .i64 p.src, .int .i64 p.dst, .slice A n c] 29)).drew ((hr.alloc hB _).drew) (by simp; omega) hn)
  have HRW := Lib.hid ((h3.alloc (.cells #[.int .i64 p.src, .int .i64 p.dst, .slice A n c] 29)).drew)
  have HC0 := Lib.hid (show (w.alloc (.cells #[.int .i64 p.src, .int .i64 p.dst, .slice A n c] 29)).drew.cell? ⟨D, 0, none⟩ = some v from (World.cell?_alloc_lt w _ _ hD).trans c0)
  have HF0 := Lib.hid (show (w.alloc (.cells #[.int .i64 p.src, .int .i64 p.dst, .slice A n c] 29)).drew.frozen? ⟨D, 0, none⟩ = false from (((Below.refl w.heap.size w).alloc (Nat.le_refl _) _).frozen (p := ⟨D, 0, none⟩) hD).trans f0)
  have HC1 := Lib.hid (show (w.alloc (.cells #[.int .i64 p.src, .int .i64 p.dst, .slice A n c] 29)).drew.cell? ⟨w.heap.size, 0, none⟩ = some (.int .i64 p.src) from (cellAt 0 (heapNew (w := w) _)).trans rfl)
  have HC2 := Lib.hid (show (w.alloc (.cells #[.int .i64 p.src, .int .i64 p.dst, .slice A n c] 29)).drew.cell? ⟨w.heap.size, 1, none⟩ = some (.int .i64 p.dst) from (cellAt 1 (heapNew (w := w) _)).trans rfl)
  have HC3 := Lib.hid (show (w.alloc (.cells #[.int .i64 p.src, .int .i64 p.dst, .slice A n c] 29)).drew.cell? ⟨w.heap.size, 2, none⟩ = some (.slice A n c) from (cellAt 2 (heapNew (w := w) _)).trans rfl)
  have HVW := Lib.hid (show some w.heap.size ≠ v.ownBlock from fun e => by have := (h3.lt _ e.symm).2; omega)
  have HPT := Lib.hid (show NB w D v ∧ F D ∧ w.ownsRow 0 29 3 v ss.length (cellsOf ss) ∧ (∀ k, v.ownBlock = some k → F k) ∧ ss.Pairwise ApartP ∧ (∀ s ∈ ss, PkAt w F s) ∧ ∀ k, F k → k < w.heap.size from ⟨h1, h2, h3, h4, h6, h7, h8⟩)
  have HPS := Lib.hid h5
  have HP := Lib.hid (show p.data.length ≤ 140737488355328 by rw [← hr.len]; exact hn)
  clear h1 h2 h3 h4 h5 h6 h7 h8 hl hr
  go_enter Try.func9, Try.ntmps9
  go_wp2_with fail
  go_region_law (first
      | (refine step_call (by rfl) 16 #[.agg #[.int .i64 p.src, .int .i64 p.dst, .slice A n c]] (by simp [Act.eval, go_sem]) (pkVal p) (FreshAt p _) HFR.out ?_; rintro g1 w1 ⟨hown1, hb1, hnb⟩; rw [show pkVal p g1 = .agg #[.int .i64 p.src, .int .i64 p.dst, .slice (some ⟨g1, 0, none⟩) p.data.length p.data.length] from rfl]
         have q1 := (hb1.cell (p := ⟨D, 0, none⟩) (by simp; omega)).trans (HC0.out)
         have q1f := (hb1.frozen (p := ⟨D, 0, none⟩) (by simp; omega)).trans (HF0.out)
         have q2 := (hb1.cell (p := ⟨w.heap.size, 0, none⟩) (by simp)).trans (HC1.out)
         have q3 := (hb1.cell (p := ⟨w.heap.size, 1, none⟩) (by simp)).trans (HC2.out)
         have q4 := (hb1.cell (p := ⟨w.heap.size, 2, none⟩) (by simp)).trans (HC3.out)
         have hsz1 : w.heap.size + 1 ≤ w1.heap.size := by have := hb1.size; simpa using this
         have hD1 : D < w1.heap.size := by omega
         have hD2 : w.heap.size < w1.heap.size := by omega
         have HOWN := Lib.hid hown1; have HB1 := Lib.hid hb1; have HNB := Lib.hid hnb
         clear hown1 hb1 hnb)
      | (refine step_append_lies _ (by rfl) _ _ _ (by rfl) 0 29 i0 _ 3 40 Try.underlying26 HI.out HZ0.out HZ1.out HZ2.out rfl (by omega) v ss.length (cellsOf ss) (by rfl) ((HRW.out.kept (row := none) ⟨HB1.out.os, HB1.out.tape, HB1.out.output, HB1.out.size, fun k hk _ => HB1.out.block k (by simpa using hk)⟩ (by cases v.ownBlock <;> simp)).alloc _)
            ⟨w1.heap.size, 0, none⟩ 1 1 [.int .i64 p.src, .int .i64 p.dst, .slice (some ⟨g1, 0, none⟩) p.data.length p.data.length] (by rfl) (by rfl) (World.news_of_block (cs := #[.int .i64 p.src, .int .i64 p.dst, .slice (some ⟨g1, 0, none⟩) p.data.length p.data.length]) (t := 29) (fr := (0, 0)) (heap_alloc_new w1 _)) (by simp [Value.oneCell'])
            (by omega) (by simp only [maxLen]; omega) (by omega) (by simp) (w1.heap.size + 1) (by simp) ?_; intro gg cap w2 hown2 hgrow hat hlt
         have hbk : ∀ k, k < w1.heap.size → some k ≠ v.ownBlock → w2.heap[k]? = w1.heap[k]? := fun k hk hne => (hgrow.block k (by simp; omega) hne).trans (Below.heap_alloc _ _ _ hk)
         have hf2 : w2.frozen? ⟨D, 0, none⟩ = false := (World.frozen?_of_block (a := ⟨D, 0, none⟩) (hbk D hD1 (Ne.symm HV.out))).trans q1f
         have r1 : w2.cell? ⟨D, 0, none⟩ = some v := (World.cell?_of_block (a := ⟨D, 0, none⟩) (hbk D hD1 (Ne.symm HV.out))).trans q1
         have r2 := (World.cell?_of_block (a := ⟨w.heap.size, 0, none⟩) (hbk w.heap.size hD2 HVW.out)).trans q2
         have r3 := (World.cell?_of_block (a := ⟨w.heap.size, 1, none⟩) (hbk w.heap.size hD2 HVW.out)).trans q3
         have r4 := (World.cell?_of_block (a := ⟨w.heap.size, 2, none⟩) (hbk w.heap.size hD2 HVW.out)).trans q4
         have HBK := Lib.hid hbk; have HOWN2 := Lib.hid hown2; have HGR := Lib.hid hgrow; have HAT := Lib.hid hat
         clear hbk hown2 hgrow hat))
  all_goals
    obtain ⟨h1, h2, h3, h4, h6, h7, h8⟩ := HPT.out
    have hfin := net_sent h1 h2 h3 h4 h6 h7 h8 HB1.out HOWN.out HNB.out HGR.out HOWN2.out HAT.out HP.out
    rw [HPS.out] at hfin
    refine bodyPost_end (results_none rfl _ _ _) rfl ?_
    exact ⟨rfl, hfin⟩
end Go.Proofs.Ytmhkpdfmjapdnaa
