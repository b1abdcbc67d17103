/-
  What the document's Remove does; appending a part of one list of files to another.
-/
import Derived.Test.YtglfbigklnaegaaRefD
namespace Go.Proofs.Ytglfbigklnaegaa
open Go.RowKit Mem FM
set_option linter.unusedVariables false
set_option maxRecDepth 100000
variable {K : Nat → Prop}

set_option maxHeartbeats 2000000 in
theorem ref_remove_any (X : Nat) (F : Nat → Prop) (s : St) (nm : ByteArray) (w : World) (h : RefAt K w F X s) (hs : nm.size ≤ 9223372036854775807) (ho : s.ops + 1 < 1099511627776) :
    Calls Try.prog 21 #[.pointer (some ⟨X, 0, none⟩), .string nm] w (RDid K F X (removed s nm).1 (removed s nm).2 w) := by
  obtain ⟨v, fs, hR⟩ := h
  have HR := Lib.hid hR
  have HTH := Lib.hid (ref_there_any X F v fs s nm w hR hs)
  have HE := Lib.hid (show thereE s nm = if ready1 nm s.off = 0 then (match find nm.data.toList s.files with | none => 8 | some _ => 0) else ready1 nm s.off from rfl)
  have HS := Lib.hid (show removed s nm = if ready1 nm s.off = 0 then withDel s nm else (ready1 nm s.off, s) from rfl)
  have HF := Lib.hid (show find nm.data.toList s.files = (find nm.data.toList fs).map File.bare by rw [← hR.2.2.2.2.1, bare_find])
  have HSAME := Lib.hid (show ∀ x : Int, RDid K F X x s w (.returned (.int .i64 x)) w from fun x => ⟨rfl, F, ⟨v, fs, hR⟩, Turned.refl _ _, Spread.refl _ _⟩)
  clear hR
  by_cases hr : ready1 nm s.off = 0
  · rcases place_find (n := nm.data.toList) (fs := fs) with ⟨hf, hp⟩ | ⟨i, hi, hf, hp, hnm⟩
    · have HX := Lib.hid (show thereE s nm = 8 by rw [HE.out, if_pos hr, HF.out, hf]; rfl)
      have HY := Lib.hid (show removed s nm = (8, s) by rw [HS.out, if_pos hr]; unfold withDel; rw [HF.out, hf]; rfl)
      rw [HX.out] at HTH
      clear hf hp hr
      go_enter Try.func21, Try.ntmps21
      go_wp2_with fail
      refine HTH.out.mono ?_
      rintro e w1 ⟨rfl, rfl⟩
      go_wp2
      go_ret
      rw [HY.out]
      exact HSAME.out 8
    · have HX := Lib.hid (show thereE s nm = 0 by rw [HE.out, if_pos hr, HF.out, hf]; rfl)
      have hoff : s.off = false := by
        unfold ready1 at hr
        cases hq : s.off
        · rfl
        · rw [hq] at hr; split at hr <;> simp at hr
      have HOP := Lib.hid (ref_op_any X F v fs s w HR.out ho)
      rw [HX.out] at HTH
      by_cases h1 : s.fuse = 1
      · have HY := Lib.hid (show removed s nm = (10, s.op s.files) by rw [HS.out, if_pos hr]; unfold withDel; rw [HF.out, hf]; simp [h1])
        rw [hoff, h1] at HOP
        clear hf hp hr h1 hoff
        go_enter Try.func21, Try.ntmps21
        go_wp2_with fail
        refine HTH.out.mono ?_
        rintro e w1 ⟨rfl, rfl⟩
        go_wp2_with fail
        refine HOP.out.mono ?_
        rintro e w2 ⟨rfl, hR2, ht2⟩
        go_wp2
        go_ret
        rw [HY.out]
        exact ⟨rfl, F, ⟨v, fs, hR2⟩, ht2.more (fun k _ hk => by subst hk; exact HR.out.2.1), Spread.refl _ _⟩
      · have HY := Lib.hid (show removed s nm = (0, s.op (del nm.data.toList s.files)) by
          rw [HS.out, if_pos hr]; unfold withDel; rw [HF.out, hf]; simp [h1])
        have hb : (s.fuse == 1) = false := by simpa using h1
        rw [hoff, hb] at HOP
        clear hf hp hr h1 hoff hb hnm
        go_enter Try.func21, Try.ntmps21
        go_wp2_with fail
        refine HTH.out.mono ?_
        rintro e w1 ⟨rfl, rfl⟩
        go_wp2_with fail
        refine HOP.out.mono ?_
        rintro e w2 ⟨rfl, hR2, ht2⟩
        have HDR := Lib.hid (ref_drop_any X F v fs _ nm w2 hR2)
        have HT2 := Lib.hid (ht2.more (F' := F) (fun k _ hk => by subst hk; exact HR.out.2.1))
        clear hR2 ht2
        go_wp2_with fail
        refine HDR.out.mono ?_
        rintro e w3 ⟨rfl, F3, v3, hR3, ht3, hs3⟩
        have HR3 := Lib.hid hR3; have HT3 := Lib.hid ht3; have HS3 := Lib.hid hs3
        clear hR3 ht3 hs3
        go_wp2
        go_ret
        rw [HY.out]
        have hfin := HR3.out
        rw [bare_del, HR.out.2.2.2.2.1] at hfin
        exact ⟨rfl, F3, ⟨_, _, hfin⟩, HT2.out.trans HT3.out, fun k hk => (HS3.out k hk).imp id (fun h => Nat.le_trans HT2.out.size h)⟩
  · have HX := Lib.hid (show thereE s nm = ready1 nm s.off by rw [HE.out, if_neg hr])
    have HY := Lib.hid (show removed s nm = (ready1 nm s.off, s) by rw [HS.out, if_neg hr])
    rw [HX.out] at HTH
    have hq : (ready1 nm s.off != 0) = true := by simpa using hr
    generalize ready1 nm s.off = rr at *
    clear hr
    go_enter Try.func21, Try.ntmps21
    go_wp2_with fail
    refine HTH.out.mono ?_
    rintro e w1 ⟨rfl, rfl⟩
    go_wp2
    go_ret
    rw [HY.out]
    exact HSAME.out rr

/-- the slice (A, m, c) reads as the files ys -/
def RdR (w : World) (A : Option Addr) (m : Nat) (ys : List (File Sl)) : Prop := m = ys.length ∧ (0 < m → ∃ g o, A = some ⟨g, o, none⟩ ∧ ∀ j u, (rcells ys)[j]? = some u → w.cell? ⟨g, o + j, none⟩ = some u)
def OwnR (w : World) (base : Nat) (v : Value) (ls : List (File Sl)) : Prop := w.ownsRow base 60 3 v ls.length (rcells ls)
theorem rcells_one (ys : List (File Sl)) : ∀ u ∈ rcells ys, u.oneCell' = true := by
  intro u hu
  obtain ⟨f, _, hf⟩ := List.mem_flatMap.1 hu
  simp only [rcell, List.mem_cons, List.not_mem_nil, or_false] at hf
  rcases hf with rfl | rfl | rfl <;> rfl

theorem OwnR.alloc {w : World} {base : Nat} {v : Value} {ls : List (File Sl)} (h : OwnR w base v ls) (o : Obj) : OwnR (w.alloc o) base v ls := World.ownsRow.alloc h o
theorem OwnR.form {w : World} {base : Nat} {v : Value} {ls : List (File Sl)} (h : OwnR w base v ls) : ∃ A c, v = .slice A ls.length c := by
  rcases h.2 with ⟨rfl, h0⟩ | ⟨g, cap, cur, rfl, _⟩
  · exact ⟨none, 0, by rw [h0]⟩
  · exact ⟨_, cap, rfl⟩
section
variable {P : Program} (w : World)
theorem run_appR (base : Nat) (t ty : TypeId) (i : TypeInfo) (ht : P.underlying t = some (.slice 60)) (hi : P.info? 60 = some i) (hz : i.zero = some (.agg #[.string ⟨#[]⟩, .slice none 0 0, .int .i64 0]))
    (hsize : i.size = 3) (hby : i.bytes = 48) (v : Value) (xs : List (File Sl)) (hown : OwnR w base v xs)
    (A : Option Addr) (m c : Nat) (ys : List (File Sl)) (hr : RdR w A m ys) (hroom : (xs.length + ys.length) * 48 ≤ 140737488355328) (hbase : base ≤ w.heap.size) :
    ∃ v' w', (Builtin.append_ #[t, t] ty #[v, .slice A m c]).run P w = .ok v' w' ∧ OwnR w' base v' (xs ++ ys) ∧ w.grownBy w' v.ownBlock := by
  have hm := hr.1
  rcases A with _ | ad
  · have h0 : m = 0 := by
      rcases Nat.eq_zero_or_pos m with h0 | h0
      · exact h0
      · obtain ⟨b, off, e, _⟩ := hr.2 h0
        cases e
    subst h0
    have hn : ys = [] := List.eq_nil_of_length_eq_zero hm.symm
    subst hn
    refine ⟨v, w, ?_, by simpa using hown, ⟨rfl, rfl, rfl, Nat.le_refl _, fun _ _ _ => rfl⟩⟩
    rcases hown.2 with ⟨rfl, _⟩ | ⟨g, cap, cur, rfl, _, _, hnc, _⟩
    · simp [Builtin.append_, run_underlying ht, sizeOf, typeInfo, hi, Builtin.lenOf, Builtin.firstCells]
    · simp [Builtin.append_, run_underlying ht, sizeOf, typeInfo, hi, Builtin.lenOf, Builtin.firstCells, hnc, storeCells]
  · have hcells : ∀ j u, (rcells ys)[j]? = some u → w.cell? (ad.add j) = some u := by
      intro j u hu
      have hj := (List.getElem?_eq_some_iff.1 hu).1
      rw [rcells_len] at hj
      obtain ⟨b, off, e, hc⟩ := hr.2 (by omega)
      injection e with e
      subst e
      rw [add_none]
      exact hc j u hu
    obtain ⟨v', w', hrun, h2, h3, _, h5⟩ := run_append_own_at (P := P) w base t ty _ i _ 3 48 ht hi hz hsize hby rfl (by omega) v xs.length (rcells xs) hown ad m c (rcells ys) (by rw [rcells_len]; omega) hcells (rcells_one ys)
      (by simp only [maxLen]; omega) (by rw [hm]; exact hroom) hbase
    refine ⟨v', w', hrun, ?_, h3⟩
    unfold OwnR
    rw [List.length_append, ← hm, rcells_app]
    exact h2
theorem wpList_appR {ops : Array Oper} {rest : List Oper} {o : Oper} {a : Act} {Q : Exit → Act → World → Prop} (hgd : o.guard = none) (s x : Operand) (t : TypeId)
    (ho : o.op = .call { callee := .builtin .append, args := #[s, x], argTypes := #[t, t] })
    (base : Nat) (i : TypeInfo) (ht : P.underlying t = some (.slice 60)) (hi : P.info? 60 = some i) (hz : i.zero = some (.agg #[.string ⟨#[]⟩, .slice none 0 0, .int .i64 0]))
    (hsize : i.size = 3) (hby : i.bytes = 48) (v : Value) (xs : List (File Sl)) (hown : OwnR w base v xs) (hs : a.eval s = v)
    (A : Option Addr) (m c : Nat) (ys : List (File Sl)) (hr : RdR w A m ys) (hx : a.eval x = .slice A m c) (hroom : (xs.length + ys.length) * 48 ≤ 140737488355328) (hbase : base ≤ w.heap.size)
    (h : ∀ v' w', OwnR w' base v' (xs ++ ys) → w.grownBy w' v.ownBlock → wpList P ops Q rest (a.put o.dst v') w') : wpList P ops Q (o :: rest) a w := by
  refine wpList_plain hgd fun K hK => ?_
  obtain ⟨v', w', hrun, h2, h3⟩ := run_appR (P := P) w base t o.type i ht hi hz hsize hby v xs hown A m c ys hr hroom hbase
  unfold Oper.wp execOp
  simp only [ho, resolve, invoke, builtin, Sem.run_bind, Sem.run_pure, Result.andThen_ok, List.map_toArray, List.map_cons, List.map_nil, hs, hx, hrun]
  exact hK _ _ (h v' w' h2 h3)
end
theorem RdR.fresh (w : World) (f : File Sl) : RdR (w.alloc (.cells #[.string ⟨f.name.toArray⟩, .slice f.x.A f.data.length f.x.c, .int .i64 (f.sure : Int)] 60)) (some ⟨w.heap.size, 0, none⟩) 1 [f] := by
  refine ⟨rfl, fun _ => ⟨_, 0, rfl, fun j u hu => ?_⟩⟩
  have hu' : ([.string ⟨f.name.toArray⟩, .slice f.x.A f.data.length f.x.c, .int .i64 (f.sure : Int)] : List Value)[j]? = some u := hu
  have := (World.news_of_block (cs := #[.string ⟨f.name.toArray⟩, .slice f.x.A f.data.length f.x.c, .int .i64 (f.sure : Int)]) (t := 60) (fr := (0, 0)) (heap_alloc_new w _)) j u hu'
  rwa [add_none] at this
theorem RefF.whole {w : World} {F : Nat → Prop} {X : Nat} {A : Option Addr} {n c : Nat} {fs : List (File Sl)} {s : St} (h : RefF K w F X (.slice A n c) fs s) : RdR w A fs.length fs := by
  refine ⟨rfl, fun h0 => ?_⟩
  have hx := h.2.2.1
  rcases hx.2 with ⟨_, h1⟩ | ⟨g, cap, cur, h1, _⟩
  · omega
  · injection h1 with e1 e2 e3
    subst e1 e2 e3
    refine ⟨g, 0, rfl, fun j u hu => ?_⟩
    have hj := (List.getElem?_eq_some_iff.1 hu).1
    rw [rcells_len] at hj
    rw [Nat.zero_add, World.ownsRow.cellAt hx j (by omega), hu]
theorem rcells_take (fs : List (File Sl)) (k : Nat) : rcells (fs.take k) = (rcells fs).take (k * 3) := by
  induction fs generalizing k with
  | nil => simp [rcells]
  | cons a r ih =>
    cases k with
    | zero => simp [rcells]
    | succ k =>
      rw [List.take_succ_cons]
      show rcell a ++ rcells (r.take k) = (rcell a ++ rcells r).take _
      rw [ih, show (k + 1) * 3 = (rcell a).length + k * 3 by simp [rcell]; omega, List.take_length_add_append]
theorem rcells_drop (fs : List (File Sl)) (k : Nat) : rcells (fs.drop k) = (rcells fs).drop (k * 3) := by
  induction fs generalizing k with
  | nil => simp [rcells]
  | cons a r ih =>
    cases k with
    | zero => simp [rcells]
    | succ k =>
      rw [List.drop_succ_cons]
      show rcells (r.drop k) = (rcell a ++ rcells r).drop _
      rw [ih, show (k + 1) * 3 = (rcell a).length + k * 3 by simp [rcell]; omega, List.drop_length_add_append]
theorem RdR.upto {w : World} {A : Option Addr} {n k : Nat} {fs : List (File Sl)} (h : RdR w A n fs) (hk : k ≤ n) : RdR w A k (fs.take k) := by
  have := h.1
  refine ⟨by rw [List.length_take]; omega, fun h0 => ?_⟩
  obtain ⟨g, o, e, hc⟩ := h.2 (by omega)
  refine ⟨g, o, e, fun j u hu => hc j u ?_⟩
  rw [rcells_take] at hu
  rw [← hu, List.getElem?_take_of_lt]
  have := (List.getElem?_eq_some_iff.1 hu).1
  rw [List.length_take] at this
  omega
theorem RdR.from_ {w : World} {A : Option Addr} {n k c : Nat} {fs : List (File Sl)} (h : RdR w A n fs) (hk : k ≤ n) (hc : n ≤ c) : RdR w (if c = k then A else A.map (·.add (k * 3))) (n - k) (fs.drop k) := by
  have := h.1
  refine ⟨by rw [List.length_drop]; omega, fun h0 => ?_⟩
  obtain ⟨g, o, rfl, hcc⟩ := h.2 (by omega)
  rw [if_neg (by omega)]
  refine ⟨g, o + k * 3, by simp [add_none], fun j u hu => ?_⟩
  rw [rcells_drop, List.getElem?_drop] at hu
  have := hcc _ u hu
  rwa [← Nat.add_assoc] at this
end Go.Proofs.Ytglfbigklnaegaa
