/-
  The law MetaEvens, by the contracts.
-/
import Derived.Test.YtghnelfgnfhclaaMetaEv
import Derived.Test.YtghnelfgnfhclaaMetaY
import Derived.Test.YtghnelfgnfhclaaMetaN
namespace Go.Proofs.Ytghnelfgnfhclaa
open Go.RowKit Mem Go.ChangeShapes
set_option linter.unusedVariables false
set_option maxRecDepth 100000

/-- a table in its box is written over by the one behind a command -/
theorem Staying.store {w0 wr w8 : World} {g n s : Nat} {A : Option Addr} {cap : Nat} {t : M.T} {xs : List X} (h : Staying w0 wr g n s A cap t xs) (c : M.C) {A4 : Option Addr} {c4 : Nat} {xs4 : List X}
    (ho : OwnXs w8 wr.heap.size (.slice A4 s c4) xs4) (he : xs4.map X.r = (M.apply t c).rows) (hb : Below wr.heap.size wr w8) :
    Staying w0 ((w8.setCell ⟨g, 0, none⟩ (.int .i64 (n : Int))).setCell ⟨g, 1, none⟩ (.slice A4 s c4)) g n s A4 c4 (M.apply t c) xs4 := by
  have hz : w8.heap[g]? = some (.cells #[.int .i64 (n : Int), .slice A s cap] 24 (0, 0)) := (hb.block g (heapLt h.box)).trans h.box
  have hT : Turned (· = g) w8 ((w8.setCell ⟨g, 0, none⟩ (.int .i64 (n : Int))).setCell ⟨g, 1, none⟩ (.slice A4 s c4)) :=
    Turned.setCell (F := (· = g)) (Turned.setCell (F := (· = g)) (Turned.refl _ w8) (p := ⟨g, 0, none⟩) (.inl rfl) _) (p := ⟨g, 1, none⟩) (.inl rfl) _
  refine ⟨heapSet 1 _ (heapSet 0 _ hz), (ho.turned hT (fun q hq e => block_ne ho.row hz (by decide) (by rw [hq, e])) (fun x hx q hq e => block_ne (ho.sl x hx) hz (by decide) (by rw [hq, e]))).less h.below.size, he, by rw [apply_nodes]; exact h.nodes, by rw [apply_len]; exact h.len, apply_form h.form, apply_fit h.fit, h.low, ?_⟩
  exact ((h.below.trans (hb.mono h.below.size)).setCell (p := ⟨g, 0, none⟩) h.low _).setCell (p := ⟨g, 1, none⟩) h.low _
theorem Staying.row {w0 wr : World} {g n s : Nat} {A : Option Addr} {cap : Nat} {t : M.T} {xs : List X} (h : Staying w0 wr g n s A cap t xs) {k : Nat} (hk : k < t.rows.length) :
    ∃ b off, A = some ⟨b, off, none⟩ ∧ wr.cell? ⟨b, off + k * 4, none⟩ = some (.int .u64 ((rowAt t k).rev : Int)) ∧ wr.cell? ⟨b, off + k * 4 + 2, none⟩ = some (.int .i64 (rowAt t k).prim) ∧ b < wr.heap.size ∧ s ≤ cap ∧ cap ≤ 9223372036854775807 := by
  have ht := h.tab
  have hl := h.len
  obtain ⟨b, off, x, e, hb, hat, hrx, hrow⟩ := ht.row (k := k) (by omega)
  have hr : rowAt t k = x.r := by unfold rowAt; rw [hrow]; rfl
  obtain ⟨k0, k1, k2, k3⟩ := hat
  rw [hr]
  exact ⟨b, off, e, k0, k2, hb, ht.bounds.1, ht.bounds.2.1⟩
theorem Staying.call {w0 wr : World} {g n s : Nat} {A : Option Addr} {cap : Nat} {t : M.T} {xs : List X} (h : Staying w0 wr g n s A cap t xs) (hi : I64 (n : Int)) (c : M.C) (hc : CmdOk c) (W : World) (hW : Below wr.heap.size wr W) :
    Calls Try.prog 17 #[.agg #[.int .i64 (n : Int), .slice A s cap], cval c] W fun e w' => ∃ v, e = .returned v ∧ AppOwn t (n : Int) s c W v w' :=
  appOwn_any A s cap t c (n : Int) W (h.tab.on hW) h.nodes hi h.len hc
theorem on_ok {t : M.T} {s kind node k : Nat} (hs : s < 100) (hn : node < 100) (hkind : kind < 256) (hk : Small k t) (hkb : k < 1000000) (hl : s < t.rows.length) : CmdOk (cmdOn t s kind node) := by
  have := hk (rowAt t s) (by rw [rowAt_eq hl]; exact List.getElem_mem hl)
  exact ⟨hkind, by unfold I64 cmdOn; simp only; omega, by unfold I64 cmdOn; simp only; omega, by unfold cmdOn; simp only; omega⟩
theorem new_small (n s c : Nat) : Small 1 (M.new n s c) := by
  intro r hr
  obtain ⟨k, _, rfl⟩ := List.mem_map.1 hr
  exact ⟨by show 0 ≤ 1; omega, by show 1 ≤ 1; omega⟩
/-- the table behind a command, in a new box -/
theorem Stepped.stay {w0 wr wx : World} {g g3 n s : Nat} {A A3 : Option Addr} {cap c3 : Nat} {t : M.T} {c : M.C} {xs xs3 : List X} (hp : Stepped wr wx g3 (n : Int) s A3 c3 t c xs3) (h : Staying w0 wr g n s A cap t xs) :
    Staying w0 wx g3 n s A3 c3 (M.apply t c) xs3 :=
  ⟨hp.box, hp.own.less h.below.size, hp.same, by rw [apply_nodes]; exact h.nodes, by rw [apply_len]; exact h.len, apply_form h.form, apply_fit h.fit, by have := hp.low; have := h.below.size; omega, h.below.trans (hp.below.mono h.below.size)⟩
/-- a table is laid over the one in another box -/
theorem Staying.over {w0 wr : World} {g g3 n s : Nat} {A : Option Addr} {cap : Nat} {t : M.T} {xs : List X} {v : Value} (h : Staying w0 wr g3 n s A cap t xs) (hz : wr.heap[g]? = some (.cells #[.int .i64 (n : Int), v] 24 (0, 0))) (hl : w0.heap.size ≤ g) :
    Staying w0 ((wr.setCell ⟨g, 0, none⟩ (.int .i64 (n : Int))).setCell ⟨g, 1, none⟩ (.slice A s cap)) g n s A cap t xs := by
  have hT : Turned (· = g) wr ((wr.setCell ⟨g, 0, none⟩ (.int .i64 (n : Int))).setCell ⟨g, 1, none⟩ (.slice A s cap)) :=
    Turned.setCell (F := (· = g)) (Turned.setCell (F := (· = g)) (Turned.refl _ wr) (p := ⟨g, 0, none⟩) (.inl rfl) _) (p := ⟨g, 1, none⟩) (.inl rfl) _
  refine ⟨heapSet 1 _ (heapSet 0 _ hz), h.own.turned hT (fun q hq e => block_ne h.own.row hz (by decide) (by rw [hq, e])) (fun x hx q hq e => block_ne (h.own.sl x hx) hz (by decide) (by rw [hq, e])), h.same, h.nodes, h.len, h.form, h.fit, hl, ?_⟩
  exact (h.below.setCell (p := ⟨g, 0, none⟩) hl _).setCell (p := ⟨g, 1, none⟩) hl _
theorem even_facts {t : M.T} {k : Nat} (hm : M.moves t = true) (hk : Small k t) (hkb : k < 999990) : ∃ (S F G : Nat) (u v x : M.T), M.pS t = S ∧ M.pF t = F ∧ M.pG t = G ∧ S < t.rows.length ∧ (F : Int) < t.nodes ∧ (G : Int) < t.nodes ∧
    u = M.apply t (cmdOn t S 2 G) ∧ M.fits t (cmdOn t S 2 G) = true ∧
    ((rowAt u S).prim = (F : Int) → v = M.apply u (cmdOn u S 1 G) ∧ M.fits u (cmdOn u S 1 G) = true) ∧ (¬ (rowAt u S).prim = (F : Int) → v = u) ∧
    x = M.apply v (cmdOn v S 3 F) ∧ M.fits v (cmdOn v S 3 F) = true ∧ Small (k + 1) u ∧ Small (k + 2) v ∧ Small (k + 3) x ∧ u.rows.length = t.rows.length ∧ v.rows.length = t.rows.length ∧ M.pot x + 10 ≤ M.pot t := by
  have h := even_of hm hk hkb
  refine ⟨M.which t, M.from_ t, M.to_ t, ev1 t, ev2 t, ev3 t, by unfold M.pS; rw [if_pos hm], by unfold M.pF; rw [if_pos hm], by unfold M.pG; rw [if_pos hm], h.s, h.from_, h.to_, rfl, h.fits1, fun hp => ⟨by unfold ev2; rw [if_pos hp], h.fits2 hp⟩, fun hp => by unfold ev2; rw [if_neg hp], rfl, h.fits3, h.small1, h.small2, h.small, h.len1, h.len2, h.falls⟩
theorem even_cut {w w3 wx : World} {g g3 n s S G : Nat} {A A3 : Option Addr} {cap c3 : Nat} {t u : M.T} {xs xs3 : List X} (hp : Stepped w3 wx g3 (n : Int) s A3 c3 t (cmdOn t S 2 G) xs3) (h : Staying w w3 g n s A cap t xs) (hu : u = M.apply t (cmdOn t S 2 G)) (hf : M.fits t (cmdOn t S 2 G) = true) :
    ∃ (g' : Nat) (A' : Option Addr) (c' : Nat) (xs' : List X), Value.pointer (some ⟨g3, 0, none⟩) = .pointer (some ⟨g', 0, none⟩) ∧ Value.bool (M.fits t (cmdOn t S 2 G)) = .bool true ∧ g < g' ∧ Hid (Staying w wx g' n s A' c' u xs') ∧ Hid (wx.heap[g]? = some (.cells #[.int .i64 (n : Int), .slice A s cap] 24 (0, 0))) := by
  subst hu
  have hg := heapLt h.box
  exact ⟨g3, A3, c3, xs3, rfl, by rw [hf], by have := hp.low; omega, Lib.hid (hp.stay h), Lib.hid ((hp.below.block g hg).trans h.box)⟩
def AppYes (u : M.T) (n : Int) (s : Nat) (w : World) (v : Value) (w' : World) : Prop :=
  ∃ A' c' xs, v = .tuple #[.agg #[.int .i64 n, .slice A' s c'], .bool true] ∧ OwnXs w' w.heap.size (.slice A' s c') xs ∧ xs.map X.r = u.rows ∧ Below w.heap.size w w'
/-- a command that is done, of a table in its box -/
theorem Staying.yes {w0 wr : World} {g n s : Nat} {A : Option Addr} {cap : Nat} {t u : M.T} {xs : List X} (h : Staying w0 wr g n s A cap t xs) (hi : I64 (n : Int)) (c : M.C) (hc : CmdOk c) (hf : M.fits t c = true) (hu : u = M.apply t c) (W : World) (hW : Below wr.heap.size wr W) :
    Calls Try.prog 17 #[.agg #[.int .i64 (n : Int), .slice A s cap], cval c] W fun e w' => ∃ v, e = .returned v ∧ AppYes u (n : Int) s W v w' := by
  subst hu
  have h1 := h.call hi c hc W hW
  unfold AppOwn at h1
  rw [hf] at h1
  exact h1
theorem Staying.put {w0 wr w8 : World} {g n s : Nat} {A : Option Addr} {cap : Nat} {t u : M.T} {xs : List X} (h : Staying w0 wr g n s A cap t xs) (c : M.C) (hu : u = M.apply t c) {A4 : Option Addr} {c4 : Nat} {xs4 : List X}
    (ho : OwnXs w8 wr.drew.heap.size (.slice A4 s c4) xs4) (he : xs4.map X.r = u.rows) (hb : Below wr.drew.heap.size wr.drew w8) :
    Staying w0 ((w8.setCell ⟨g, 0, none⟩ (.int .i64 (n : Int))).setCell ⟨g, 1, none⟩ (.slice A4 s c4)) g n s A4 c4 u xs4 := by
  subst hu
  exact h.store c ho he (below_undrew hb)
theorem far2 {w : World} {g h : Nat} {o : Obj} {u v : Value} (hz : w.heap[g]? = some o) (hne : g ≠ h) : ((w.setCell ⟨h, 0, none⟩ u).setCell ⟨h, 1, none⟩ v).heap[g]? = some o :=
  heapFar (heapFar hz (by show g ≠ h; exact hne)) (by show g ≠ h; exact hne)
end Go.Proofs.Ytghnelfgnfhclaa
