/-
  Tables of the call's own; what Clone of rows and Copy make, by contracts.
-/
import Derived.Test.YtghnelfgnfhclaaMetaD
import Derived.Deep.AppendLies
namespace Go.Proofs.Ytghnelfgnfhclaa
open Go.RowKit Mem
set_option linter.unusedVariables false
set_option maxRecDepth 100000

theorem Try.infoShard : (Try.prog.info? 42).map (fun i => (i.zero, i.size, i.bytes)) = some (some (.agg #[.int .u64 0, .int .u64 0, .int .i64 0, .slice none 0 0]), 4, 48) := by kernel_rfl
theorem Try.infoInt : (Try.prog.info? 3).map (fun i => (i.zero, i.size, i.bytes)) = some (some (.int .i64 0), 1, 8) := by kernel_rfl
theorem info_of {P : Program} {e : TypeId} {z : Value} {s b : Nat} (h : (P.info? e).map (fun i => (i.zero, i.size, i.bytes)) = some (some z, s, b)) : ∃ i, P.info? e = some i ∧ i.zero = some z ∧ i.size = s ∧ i.bytes = b := by
  cases hi : P.info? e with
  | none => rw [hi] at h; cases h
  | some i => rw [hi] at h; simp at h; exact ⟨i, rfl, h.1, h.2.1, h.2.2⟩

/-- the row's numbers are numbers -/
structure Fit (r : M.R) : Prop where
  rev : r.rev < 18446744073709551616
  term : r.term < 18446744073709551616
  prim : I64 r.prim
  sync : ∀ z ∈ r.sync, I64 z
  len : r.sync.length ≤ 17592186044416
def FitT (t : M.T) : Prop := I64 t.nodes ∧ t.rows.length ≤ 2932031007402 ∧ ∀ r ∈ t.rows, Fit r
theorem RdT.fit {w : World} {B : Nat} {v : Value} {t : M.T} (h : RdT w B v t) : FitT t := by
  obtain ⟨A, n, c, xs, rfl, hx, e, hn⟩ := h
  refine ⟨hn, by rw [← e, List.length_map, ← hx.len]; exact hx.light, fun r hr => ?_⟩
  rw [← e] at hr
  obtain ⟨x, hxm, rfl⟩ := List.mem_map.1 hr
  have h1 := hx.rows x hxm
  exact ⟨h1.rev, h1.term, h1.prim, h1.sync, by have := h1.sl.1; rw [ints_len] at this; rw [← this]; exact h1.light⟩

/-- the slices lie apart -/
def Apart (xs : List X) : Prop := xs.Pairwise fun x y => ∀ b, x.sl.ownBlock = some b → y.sl.ownBlock ≠ some b
/-- v holds the rows xs, all in memory of the call's own -/
structure OwnXs (w : World) (base : Nat) (v : Value) (xs : List X) : Prop where
  row : w.ownsRow base 42 4 v xs.length (xcells xs)
  sl : ∀ x ∈ xs, OwnV w base 3 x.sl (ints x.r.sync)
  apart : Apart xs
theorem row_below {w w' : World} {base n s : Nat} {e : TypeId} {v : Value} {xs : List Value} (h : w.ownsRow base e s v n xs) (hb : Below w.heap.size w w') : w'.ownsRow base e s v n xs := by
  refine World.ownsRow.kept (row := none) h ⟨hb.os, hb.tape, hb.output, hb.size, fun k hk _ => hb.block k hk⟩ ?_
  cases hv : v.ownBlock <;> simp
theorem row_turned {w w' : World} {F : Nat → Prop} {base n s : Nat} {e : TypeId} {v : Value} {xs : List Value} (h : w.ownsRow base e s v n xs) (ht : Turned F w w') (hn : ∀ k, v.ownBlock = some k → ¬ F k) : w'.ownsRow base e s v n xs := by
  refine ⟨h.1, ?_⟩
  rcases h.2 with h2 | ⟨g, cap, cur, rfl, hg, hh, r⟩
  · exact .inl h2
  · exact .inr ⟨g, cap, cur, rfl, hg, (ht.block g (Array.getElem?_eq_some_iff.1 hh).1 (hn g rfl)).trans hh, r⟩
theorem OwnXs.below {w w' : World} {base : Nat} {v : Value} {xs : List X} (h : OwnXs w base v xs) (hb : Below w.heap.size w w') : OwnXs w' base v xs := ⟨row_below h.row hb, fun x hx => (h.sl x hx).below hb, h.apart⟩
theorem row_form {w : World} {base n s : Nat} {e : TypeId} {v : Value} {xs : List Value} (h : w.ownsRow base e s v n xs) : ∃ A c, v = .slice A n c ∧ n ≤ c ∧ c ≤ 9223372036854775807 := by
  rcases h.2 with ⟨rfl, h0⟩ | ⟨g, cap, cur, rfl, _, _, h1, h2, _⟩
  · exact ⟨none, 0, by rw [h0], by omega, by omega⟩
  · exact ⟨_, cap, rfl, h1, by simpa only [maxLen] using h2⟩
/-- a block of rows and one of numbers are two -/
theorem block_ne {w : World} {base n s g : Nat} {e e' : TypeId} {v : Value} {xs : List Value} {cur : Array Value} {fr : Nat × Nat} (h : w.ownsRow base e s v n xs) (hg : w.heap[g]? = some (.cells cur e' fr)) (hne : e ≠ e') : v.ownBlock ≠ some g := by
  intro hk
  rcases h.2 with ⟨rfl, _⟩ | ⟨g', cap, cur', rfl, _, hh, _⟩
  · cases hk
  · injection hk with hk
    subst hk
    have := hh.symm.trans hg
    injection this with this
    injection this with _ e2 _
    exact hne e2
theorem at4_of_row {w : World} {base g n c i : Nat} {xs : List X} (h : w.ownsRow base 42 4 (.slice (some ⟨g, 0, none⟩) n c) xs.length (xcells xs)) (hi : i < xs.length) : At4 w g 0 i xs[i] := by
  obtain ⟨a0, a1, a2, a3⟩ := xcells_at hi
  have hl : ∀ {j : Nat} {u : Value}, (xcells xs)[j]? = some u → w.cell? ⟨g, j, none⟩ = some u := by
    intro j u hj
    rcases h.2 with ⟨h1, _⟩ | ⟨g', cap, cur, h1, _⟩
    · cases h1
    · injection h1 with h1 h2 h3
      injection h1 with h1
      injection h1 with h1
      subst h2
      rw [World.ownsRow.cellAt h j (by rw [← xcells_len]; exact (List.getElem?_eq_some_iff.1 hj).1), hj]
  unfold At4
  rw [Nat.zero_add]
  exact ⟨hl a0, hl a1, hl a2, hl a3⟩
/-- what is owned can be read -/
theorem OwnXs.rd {w : World} {base : Nat} {v : Value} {xs : List X} (h : OwnXs w base v xs) (hf : ∀ x ∈ xs, Fit x.r) (hl : xs.length ≤ 2932031007402) : ∃ A c, v = .slice A xs.length c ∧ RdXs w w.heap.size A xs.length c xs := by
  obtain ⟨A, c, rfl, hc, hm⟩ := row_form h.row
  refine ⟨A, c, rfl, rfl, hc, hm, hl, fun hn => ?_, fun x hx => ?_⟩
  · rcases h.row.2 with ⟨_, h0⟩ | ⟨g, cap, cur, h1, hg, hh, _⟩
    · omega
    · injection h1 with e1 e2 e3
      subst e1
      exact ⟨g, 0, rfl, heapLt hh, fun i hi => at4_of_row h.row hi⟩
  · have h1 := h.sl x hx
    have h2 := hf x hx
    have h3 := h1.rd
    exact ⟨h2.rev, h2.term, h2.prim, h3, h2.sync, by have := h3.1; rw [ints_len] at this; rw [this]; exact h2.len⟩
theorem rdt_of_own {w : World} {base : Nat} {v : Value} {xs : List X} {t : M.T} (h : OwnXs w base v xs) (he : xs.map X.r = t.rows) (hf : FitT t) : RdT w w.heap.size (.agg #[.int .i64 t.nodes, v]) t := by
  obtain ⟨A, c, rfl, hx⟩ := h.rd (fun x hx => hf.2.2 x.r (by rw [← he]; exact List.mem_map_of_mem hx)) (by have := hf.2.1; rw [← he, List.length_map] at this; exact this)
  exact ⟨A, _, c, xs, rfl, hx, he, hf.1⟩

/-! ### Clone of rows -/
theorem wpList_appX {P : Program} (w : World) {ops : Array Oper} {rest : List Oper} {o : Oper} {a : Act} {Q : Exit → Act → World → Prop} (hgd : o.guard = none) (s x : Operand) (t : TypeId)
    (ho : o.op = .call { callee := .builtin .append, args := #[s, x], argTypes := #[t, t] })
    (base : Nat) (e : TypeId) (i : TypeInfo) (z : Value) (size bytes : Nat) (ht : P.underlying t = some (.slice e)) (hi : P.info? e = some i) (hz : i.zero = some z)
    (hsize : i.size = size) (hby : i.bytes = bytes) (hzs : z.cells.size = size) (hpos : 0 < size) (v : Value) (n : Nat) (xs : List Value) (hown : w.ownsRow base e size v n xs) (hs : a.eval s = v)
    (ad : Addr) (m c : Nat) (ys : List Value) (hl : ys.length = m * size) (hx : a.eval x = .slice (some ad) m c) (hcells : ∀ j u, ys[j]? = some u → w.cell? (ad.add j) = some u) (h1 : ∀ u ∈ ys, u.oneCell' = true)
    (h63 : n + m ≤ maxLen) (hroom : (n + m) * bytes ≤ 140737488355328) (hbase : base ≤ w.heap.size)
    (h : ∀ v' w', w'.ownsRow base e size v' (n + m) (xs ++ ys) → w.grownBy w' v.ownBlock → (v'.ownBlock = v.ownBlock ∨ v'.ownBlock = some w.heap.size) → wpList P ops Q rest (a.put o.dst v') w') : wpList P ops Q (o :: rest) a w := by
  refine wpList_plain hgd fun K hK => ?_
  obtain ⟨v', w', hrun, h2, h3, _, h4⟩ := run_append_own_at (P := P) w base t o.type e i z size bytes ht hi hz hsize hby hzs hpos v n xs hown ad m c ys hl hcells h1 h63 hroom hbase
  unfold Oper.wp execOp
  simp only [ho, resolve, invoke, builtin, Sem.run_bind, Sem.run_pure, Result.andThen_ok, List.map_toArray, List.map_cons, List.map_nil, hs, hx, hrun]
  exact hK _ _ (h v' w' h2 h3 h4)
theorem rdx_news {w : World} {B b off c n : Nat} {xs : List X} (hc : ∀ i (hi : i < xs.length), At4 w b off i xs[i]) : ∀ j u, (xcells xs)[j]? = some u → w.cell? ((⟨b, off, none⟩ : Addr).add j) = some u := by
  intro j u hj
  have hjl : j < xs.length * 4 := by rw [← xcells_len]; exact (List.getElem?_eq_some_iff.1 hj).1
  have hi : j / 4 < xs.length := by omega
  obtain ⟨a0, a1, a2, a3⟩ := xcells_at hi
  obtain ⟨c0, c1, c2, c3⟩ := hc (j / 4) hi
  rw [add_none, ← hj]
  have hm : j = j / 4 * 4 ∨ j = j / 4 * 4 + 1 ∨ j = j / 4 * 4 + 2 ∨ j = j / 4 * 4 + 3 := by omega
  rcases hm with e | e | e | e
  · rw [e, a0, c0]
  · rw [e, a1, ← Nat.add_assoc, c1]
  · rw [e, a2, ← Nat.add_assoc, c2]
  · rw [e, a3, ← Nat.add_assoc, c3]

set_option maxHeartbeats 1000000 in
theorem cloneX_any (A : Option Addr) (n c : Nat) (xs : List X) (w : World) (h : RdXs w w.heap.size A n c xs) : Calls Try.prog 28 #[.slice A n c] w fun e w' =>
    ∃ v', e = .returned v' ∧ w'.ownsRow w.heap.size 42 4 v' n (xcells xs) ∧ Below w.heap.size w w' := by
  obtain ⟨i0, hi, hz0, hz1, hz2⟩ := info_of Try.infoShard
  have HI := Lib.hid hi; have HZ0 := Lib.hid hz0; have HZ1 := Lib.hid hz1; have HZ2 := Lib.hid hz2
  clear hi hz0 hz1 hz2
  have hlen := h.len
  have hlight := h.light
  have hnil := fun (w : World) (a : Option Addr) (n c : Nat) => Lib.run_eql_slice_nil (P := Try.prog) w 22 42 a n c 0 0 Try.underlying22
  have HO0 := Lib.hid (show (w.alloc (.cells #[] 42)).ownsRow w.heap.size 42 4 (.slice (some ⟨w.heap.size, 0, none⟩) 0 0) 0 [] from
    ⟨rfl, .inr ⟨w.heap.size, 0, #[], rfl, Nat.le_refl _, heapNew _, Nat.le_refl _, Nat.zero_le _, rfl, rfl⟩⟩)
  rcases A with _ | ad
  · have h0 : n = 0 := by
      rcases Nat.eq_zero_or_pos n with h0 | h0
      · exact h0
      · obtain ⟨b, off, e, _⟩ := h.cells h0
        cases e
    subst h0
    have hx : xs = [] := List.eq_nil_of_length_eq_zero hlen.symm
    subst hx
    clear h hlen hlight HO0
    go_enter Try.func28, Try.ntmps28
    go_wp2
    go_ret
    exact ⟨_, rfl, World.ownsRow_nil _ _ _ _, Below.refl _ _⟩
  · have hnews : ∀ W, Below w.heap.size w W → ∀ j u, (xcells xs)[j]? = some u → W.cell? (ad.add j) = some u := by
      intro W hW
      rcases Nat.eq_zero_or_pos n with h0 | h0
      · intro j u hj
        have := (List.getElem?_eq_some_iff.1 hj).1
        rw [xcells_len] at this
        omega
      · obtain ⟨b, off, e, hb, hc⟩ := (h.below hW).cells h0
        injection e with e
        subst e
        exact rdx_news (B := 0) (c := 0) (n := 0) hc
    have HN := Lib.hid (hnews _ (bel_alloc' w (.cells #[] 42)))
    have HL := Lib.hid hlen
    clear hnews h hlen
    go_enter Try.func28, Try.ntmps28
    go_wp2_with (at_builtin; go_must (refine wpList_appX (w.alloc _) rfl (.tmp 5) (.tmp 6) _ rfl w.heap.size 42 i0 _ 4 48 Try.underlying22 HI.out HZ0.out HZ1.out HZ2.out rfl (by omega) (.slice (some ⟨w.heap.size, 0, none⟩) 0 0) 0 [] HO0.out rfl ad n c (xcells xs) (by rw [xcells_len, HL.out]) rfl HN.out (xcells_one xs) (by simp only [maxLen]; omega) (by omega) (by simp) ?_))
    intro v' w1 hown hg hat
    have hb := ((Below.refl w.heap.size w).alloc (Nat.le_refl _) (.cells #[] 42)).grown hg (by simp) (fun k hk => by
      have hk2 : w.heap.size = k := Option.some.inj hk
      omega)
    have HO := Lib.hid hown; have HB := Lib.hid hb
    clear hown hg hat hb
    go_wp2
    go_ret
    exact ⟨_, rfl, HO.out, HB.out⟩
end Go.Proofs.Ytghnelfgnfhclaa
