/-
  What the document's Rename does, whole; both disks beside one another ('Two'), and what a call of either leaves of it.
-/
import Derived.Test.YtglfbigklnaegaaRefK
import Derived.Test.YtglfbigklnaegaaArgsD
namespace Go.Proofs.Ytglfbigklnaegaa
open Go.RowKit Mem FM
set_option linter.unusedVariables false
set_option maxRecDepth 100000
variable {K : Nat → Prop}

theorem ref_rename_any (X : Nat) (F : Nat → Prop) (s : St) (nm to : ByteArray) (w : World) (h : RefAt K w F X s) (hs : nm.size ≤ 9223372036854775807) (hs2 : to.size ≤ 9223372036854775807) (ho : s.ops + 1 < 1099511627776) :
    Calls Try.prog 23 #[.pointer (some ⟨X, 0, none⟩), .string nm, .string to] w (RDid K F X (renamed s nm to).1 (renamed s nm to).2 w) := by
  by_cases hbad : nameOk nm = false ∨ nameOk to = false ∨ nm.data.toList = to.data.toList
  · have e : renamed s nm to = (1, s) := by
      have hr : ready2 nm to s.off = 1 := by
        unfold ready2
        rcases hbad with h | h | h
        · simp [h]
        · cases hn : nameOk nm <;> simp [h]
        · cases hn : nameOk nm <;> cases ht : nameOk to <;> simp [h]
      unfold renamed
      rw [if_neg (by rw [hr]; decide), hr]
    rw [e]
    exact ref_rename_bad X F s nm to w h hs hs2 hbad
  · have h1 : nameOk nm = true := by cases hn : nameOk nm with | true => rfl | false => exact absurd (.inl hn) hbad
    have h2 : nameOk to = true := by cases hn : nameOk to with | true => rfl | false => exact absurd (.inr (.inl hn)) hbad
    have hne : ¬ nm.data.toList = to.data.toList := fun e => hbad (.inr (.inr e))
    have hr2 : ready2 nm to s.off = if s.off then 10 else 0 := by unfold ready2; rw [if_pos h1, if_pos h2, if_neg hne]
    have hr1 : ready1 nm s.off = if s.off then 10 else 0 := by unfold ready1; rw [if_pos h1]
    cases hoff : s.off
    · rw [hoff] at hr1 hr2
      simp only [Bool.false_eq_true, if_false] at hr1 hr2
      have h0 := h
      obtain ⟨v, fs, hR⟩ := h
      have hfb : find nm.data.toList s.files = (find nm.data.toList fs).map File.bare := by rw [← hR.2.2.2.2.1, bare_find]
      rcases place_find (n := nm.data.toList) (fs := fs) with ⟨hf, hp⟩ | ⟨i, hi, hf, hp, hnm⟩
      · have e : renamed s nm to = (8, s) := by unfold renamed; rw [hoff, hr2, if_pos rfl, hfb, hf]; rfl
        rw [e]
        exact ref_rename_there X F s nm to w h0 hs hs2 h1 h2 hne 8 (by unfold thereE; rw [hoff, hr1, if_pos rfl, hfb, hf]; rfl) (.inr rfl)
      · have ht : thereE s nm = 0 := by unfold thereE; rw [hoff, hr1, if_pos rfl, hfb, hf]; rfl
        by_cases hsh : fs[i].sure < fs[i].data.length
        · have e : renamed s nm to = (12, s) := by
            unfold renamed
            rw [hoff, hr2, if_pos rfl, hfb, hf]
            exact if_pos hsh
          rw [e]
          exact ref_rename_short X F v fs s nm to w hR hs hs2 h1 h2 hne ht i hi hp hsh
        · have e : renamed s nm to = withRen s nm to := by
            unfold renamed
            rw [hoff, hr2, if_pos rfl, hfb, hf]
            exact if_neg hsh
          by_cases hfu : s.fuse = 1
          · have e2 : withRen s nm to = (10, s.op s.files) := by
              unfold withRen
              rw [hfb, hf]
              exact if_pos hfu
            rw [e, e2]
            exact ref_rename_crash X F v fs s nm to w hR hs hs2 h1 h2 hne ht i hi hp hsh hoff (by simp [hfu]) ho
          · have e2 : withRen s nm to = (0, s.op (renameF nm.data.toList to.data.toList fs[i].bare s.files)) := by
              unfold withRen
              rw [hfb, hf]
              exact if_neg hfu
            rw [e, e2]
            exact ref_rename_main X F v fs s nm to w hR hs hs2 h1 h2 hne ht i hi hp hf hsh hoff (by simp [hfu]) ho
    · rw [hoff] at hr1 hr2
      simp only [if_true] at hr1 hr2
      have e : renamed s nm to = (10, s) := by
        unfold renamed
        rw [hoff, hr2, if_neg (by decide)]
      rw [e]
      exact ref_rename_there X F s nm to w h hs hs2 h1 h2 hne 10 (by unfold thereE; rw [hoff, hr1, if_neg (by decide)]) (.inl rfl)

/-- the document's disk stays as it is while another one turns -/
theorem RefF.other {K' G : Nat → Prop} {w w' : World} {X : Nat} {v : Value} {fs : List (File Sl)} {s : St} (h : RefF K w G X v fs s) (ht : Turned K w w') (hS : Spread K K' w) (hd : ∀ k, G k → ¬ K k) : RefF K' w' G X v fs s := by
  obtain ⟨h1, h2, h3, h4, h5, h6, h7, h8, h9⟩ := h
  exact ⟨(ht.block X (h9 X h2) (hd X h2)).trans h1, h2, row_far h3 ht (fun k hk => hd k (h4 k hk)), h4, h5, h6, fun f hf => ⟨(h7 f hf).1.other ht hS, (h7 f hf).2⟩, h8, fun k hk => Nat.lt_of_lt_of_le (h9 k hk) ht.size⟩
theorem RefAt.other {K' G : Nat → Prop} {w w' : World} {X : Nat} {s : St} (h : RefAt K w G X s) (ht : Turned K w w') (hS : Spread K K' w) (hd : ∀ k, G k → ¬ K k) : RefAt K' w' G X s := by
  obtain ⟨v, fs, hR⟩ := h
  exact ⟨v, fs, hR.other ht hS hd⟩
theorem RefAt.foot {G : Nat → Prop} {w : World} {X : Nat} {s : St} (h : RefAt K w G X s) {k : Nat} (hk : G k) : k < w.heap.size := by
  obtain ⟨v, fs, hR⟩ := h
  exact hR.2.2.2.2.2.2.2.2 k hk
theorem RefAt.below {G : Nat → Prop} {w w' : World} {X : Nat} {s : St} (h : RefAt K w G X s) (hb : Below w.heap.size w w') : RefAt K w' G X s := by
  obtain ⟨v, fs, hR⟩ := h
  exact ⟨v, fs, hR.below hb⟩

/-- both disks: the program's, of state s, and the document's, of state t; both lie from B0 on, and the act a in block b -/
def Two (B0 : Nat) (w : World) (F G : Nat → Prop) (D X : Nat) (s t : St) : Prop :=
  DiskAt w F D s ∧ RefAt F w G X t ∧ (∀ k, F k → ¬ G k) ∧ (∀ k, F k → B0 ≤ k) ∧ (∀ k, G k → B0 ≤ k) ∧ B0 ≤ w.heap.size
def BoxA (w : World) (b : Nat) (a : ActD) : Prop := w.heap[b]? = some (.cells #[.int .u8 a.kind, .string a.name, .string a.to, .slice a.A a.n a.c, .int .i64 a.num, .slice a.A' a.n' a.c'] 35 (0, 0))
def TwoB (B0 b : Nat) (a : ActD) (w : World) (F G : Nat → Prop) (D X : Nat) (s t : St) : Prop := Two B0 w F G D X s t ∧ BoxA w b a ∧ ¬ F b ∧ ¬ G b ∧ a.ok w B0

section
variable {B0 b D X : Nat} {a : ActD} {w w' : World} {F G : Nat → Prop} {s t s' t' : St}
theorem Two.below (h : Two B0 w F G D X s t) (hb : Below w.heap.size w w') : Two B0 w' F G D X s t :=
  ⟨h.1.below hb, h.2.1.below hb, h.2.2.1, h.2.2.2.1, h.2.2.2.2.1, Nat.le_trans h.2.2.2.2.2 hb.size⟩
theorem TwoB.below (h : TwoB B0 b a w F G D X s t) (hb : Below w.heap.size w w') : TwoB B0 b a w' F G D X s t :=
  ⟨h.1.below hb, (hb.block b (heapLt h.2.1)).trans h.2.1, h.2.2.1, h.2.2.2.1, h.2.2.2.2.below (hb.mono h.1.2.2.2.2.2)⟩
theorem TwoB.drew (h : TwoB B0 b a w F G D X s t) : TwoB B0 b a w.drew F G D X s t := h.below ⟨rfl, rfl, rfl, Nat.le_refl _, fun _ _ => rfl⟩
theorem TwoB.new (h : Two B0 w F G D X s t) (ha : a.ok w B0) : TwoB B0 w.heap.size a (w.alloc (.cells #[.int .u8 a.kind, .string a.name, .string a.to, .slice a.A a.n a.c, .int .i64 a.num, .slice a.A' a.n' a.c'] 35)) F G D X s t := by
  have hb := (Below.refl w.heap.size w).alloc (Nat.le_refl _) (.cells #[.int .u8 a.kind, .string a.name, .string a.to, .slice a.A a.n a.c, .int .i64 a.num, .slice a.A' a.n' a.c'] 35)
  exact ⟨h.below hb, heapNew _, fun hk => by have := h.1.foot hk; omega, fun hk => by have := h.2.1.foot hk; omega, ha.below (hb.mono h.2.2.2.2.2)⟩
theorem TwoB.cells (h : TwoB B0 b a w F G D X s t) : w.cell? ⟨b, 0, none⟩ = some (.int .u8 a.kind) ∧ w.cell? ⟨b, 1, none⟩ = some (.string a.name) ∧ w.cell? ⟨b, 2, none⟩ = some (.string a.to) ∧ w.cell? ⟨b, 3, none⟩ = some (.slice a.A a.n a.c) ∧ w.cell? ⟨b, 4, none⟩ = some (.int .i64 a.num) ∧ w.cell? ⟨b, 5, none⟩ = some (.slice a.A' a.n' a.c') :=
  ⟨(cellAt 0 h.2.1).trans rfl, (cellAt 1 h.2.1).trans rfl, (cellAt 2 h.2.1).trans rfl, (cellAt 3 h.2.1).trans rfl, (cellAt 4 h.2.1).trans rfl, (cellAt 5 h.2.1).trans rfl⟩
/-- the program's disk has turned -/
theorem TwoB.one (h : TwoB B0 b a w F G D X s t) {F' : Nat → Prop} (hd : DiskAt w' F' D s') (ht : Turned F w w') (hs : Spread F F' w) : TwoB B0 b a w' F' G D X s' t ∧ Below B0 w w' := by
  obtain ⟨⟨h1, h2, h3, h4, h5, h6⟩, hbx, hnF, hnG, hok⟩ := h
  have hbel : Below B0 w w' := ht.below h6 h4
  refine ⟨⟨⟨hd, h2.other ht hs (fun k hk hf => h3 k hf hk), fun k hk hg => ?_, fun k hk => ?_, h5, Nat.le_trans h6 ht.size⟩, (ht.block b (heapLt hbx) hnF).trans hbx, fun hf => ?_, hnG, hok.below hbel⟩, hbel⟩
  · rcases hs k hk with h | h
    · exact h3 k h hg
    · have := h2.foot hg; omega
  · rcases hs k hk with h | h
    · exact h4 k h
    · omega
  · rcases hs b hf with h | h
    · exact hnF h
    · have := heapLt hbx; omega
/-- the document's disk has turned -/
theorem TwoB.two (h : TwoB B0 b a w F G D X s t) {G' : Nat → Prop} (hr : RefAt F w' G' X t') (ht : Turned G w w') (hs : Spread G G' w) : TwoB B0 b a w' F G' D X s t' ∧ Below B0 w w' := by
  obtain ⟨⟨h1, h2, h3, h4, h5, h6⟩, hbx, hnF, hnG, hok⟩ := h
  have hbel : Below B0 w w' := ht.below h6 h5
  refine ⟨⟨⟨h1.far ht (fun k hk hg => h3 k hk hg), hr, fun k hk hg => ?_, h4, fun k hk => ?_, Nat.le_trans h6 ht.size⟩, (ht.block b (heapLt hbx) hnG).trans hbx, hnF, fun hf => ?_, hok.below hbel⟩, hbel⟩
  · rcases hs k hg with h | h
    · exact h3 k hk h
    · have := h1.foot hk; omega
  · rcases hs k hk with h | h
    · exact h5 k h
    · omega
  · rcases hs b hf with h | h
    · exact hnG h
    · have := heapLt hbx; omega

def Did1 (B0 b : Nat) (a : ActD) (G : Nat → Prop) (D X : Nat) (x : Int) (s' t : St) (w : World) (e : Ending) (w' : World) : Prop := e = .returned (.int .i64 x) ∧ ∃ F', TwoB B0 b a w' F' G D X s' t ∧ Below B0 w w'
def Did2 (B0 b : Nat) (a : ActD) (F : Nat → Prop) (D X : Nat) (x : Int) (s t' : St) (w : World) (e : Ending) (w' : World) : Prop := e = .returned (.int .i64 x) ∧ ∃ G', TwoB B0 b a w' F G' D X s t' ∧ Below B0 w w'
theorem TwoB.did {P : Program} {f : FuncId} {args : Array Value} {x : Int} (h : TwoB B0 b a w F G D X s t) (hc : Calls P f args w (Did F D x s' w)) : Calls P f args w (Did1 B0 b a G D X x s' t w) :=
  hc.mono (fun e w2 ⟨e1, F', h1, h2, h3⟩ => ⟨e1, F', h.one h1 h2 h3⟩)
theorem TwoB.rdid {P : Program} {f : FuncId} {args : Array Value} {x : Int} (h : TwoB B0 b a w F G D X s t) (hc : Calls P f args w (RDid F G X x t' w)) : Calls P f args w (Did2 B0 b a F D X x s t' w) :=
  hc.mono (fun e w2 ⟨e1, F', h1, h2, h3⟩ => ⟨e1, F', h.two h1 h2 h3⟩)
/-- an argument that is read stays through the document's doing -/
theorem TwoB.steady (h : TwoB B0 b a w F G D X s t) : Steady F G w a.A a.n a.c a.l := fun w' ht => by
  have hb : Below B0 w w' := ht.below h.1.2.2.2.2.2 (fun k hk => hk.elim (h.1.2.2.2.2.1 k) (h.1.2.2.2.1 k))
  exact (h.2.2.2.2.2.2.2.1.below hb).more (Nat.le_trans h.1.2.2.2.2.2 ht.size)
theorem TwoB.keeps (h : TwoB B0 b a w F G D X s t) : ∀ w', Turned G w w' → RdV w' w'.heap.size a.A' a.n' a.c' (a.ks.map (Value.int .i64)) := fun w' ht => by
  have hb : Below B0 w w' := ht.below h.1.2.2.2.2.2 (fun k hk => h.1.2.2.2.2.1 k hk)
  exact (h.2.2.2.2.2.2.2.2.2.2.1.below hb).more (Nat.le_trans h.1.2.2.2.2.2 ht.size)
end

/-- what an act makes of a disk -/
def stepD (s : St) (a : ActD) : St :=
  match a.kind % 8 with
  | 0 => (appended s a.name a.l).2
  | 1 => (putR s a.name a.l).2
  | 2 => (synced s a.name).2
  | 3 => (removed s a.name).2
  | 4 => (renamed s a.name a.to).2
  | 5 => s
  | 6 => if a.num < 0 then s else ⟨s.room, s.files, s.ops, a.num.toNat, s.off⟩
  | _ => restarted s a.ks
/-- true; the state is s' -/
def DoneBoth (B0 D X : Nat) (s' : St) (w : World) (e : Ending) (w' : World) : Prop := e = .returned (.bool true) ∧ ∃ F' G', Two B0 w' F' G' D X s' s' ∧ Below B0 w w'
end Go.Proofs.Ytglfbigklnaegaa
