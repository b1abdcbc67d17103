/-
  Words for memory, of no program: a slice of bytes that the call owns ('Own'), one that can be read ('Rd'), and what append, a cut and a conversion make of them. Own work over the library's laws.
-/
import Derived.WalkKit
import Derived.WalkSpells
import Derived.WalkLawsBesides
import Derived.Maps.AppendAt
import Derived.Lib.AppendStr
import Derived.Laws.BytesString
import Derived.Deep.Draws
namespace Go.Proofs.YtjdkpcibdjhdoaaDoor.Mem
open Go.RowKit

def bcell (b : UInt8) : Value := .int .u8 (b.toNat : Int)
def bcells (l : List UInt8) : List Value := l.map bcell

theorem bcells_len (l : List UInt8) : (bcells l).length = l.length := by simp [bcells]
theorem bcells_app (l r : List UInt8) : bcells (l ++ r) = bcells l ++ bcells r := by simp [bcells]
theorem bcells_one (l : List UInt8) : ∀ u ∈ bcells l, u.oneCell' = true := by
  intro u hu
  simp only [bcells, List.mem_map] at hu
  obtain ⟨b, _, rfl⟩ := hu
  rfl
theorem bcells_at {l : List UInt8} {j : Nat} (h : j < l.length) : (bcells l)[j]? = some (.int .u8 ((l[j]?.getD 0).toNat : Int)) := by
  simp [bcells, bcell, h]

/-- the slice value v owns the bytes l, in a block from 'base' on -/
def Own (w : World) (base : Nat) (e : TypeId) (v : Value) (l : List UInt8) : Prop := w.ownsRow base e 1 v l.length (bcells l)

/-- the slice (A, n, c) reads as the bytes l, and lies below block B -/
def Rd (w : World) (B : Nat) (A : Option Addr) (n c : Nat) (l : List UInt8) : Prop :=
  n = l.length ∧ n ≤ c ∧ c ≤ maxLen ∧ (0 < n → ∃ b off, A = some ⟨b, off, none⟩ ∧ b < B ∧ ∀ j, j < n → w.cell? ⟨b, off + j, none⟩ = some (.int .u8 ((l[j]?.getD 0).toNat : Int)))

theorem add_none (b off j : Nat) : (⟨b, off, none⟩ : Addr).add j = ⟨b, off + j, none⟩ := by
  unfold Addr.add; split <;> simp_all

section
variable {w w' : World} {B B' n c : Nat} {A : Option Addr} {l : List UInt8}
theorem Rd.empty (hc : c ≤ maxLen) : Rd w B A 0 c [] := ⟨rfl, Nat.zero_le _, hc, fun h => absurd h (by omega)⟩
theorem Rd.len (h : Rd w B A n c l) : n = l.length := h.1
theorem Rd.cap (h : Rd w B A n c l) : n ≤ c := h.2.1
theorem Rd.max (h : Rd w B A n c l) : c ≤ 9223372036854775807 := by have := h.2.2.1; simpa only [maxLen] using this
theorem Rd.at_ {k : Nat} (h : Rd w B A n c l) (hk : k < n) : ∃ b off, A = some ⟨b, off, none⟩ ∧ b < B ∧ w.cell? ⟨b, off + k, none⟩ = some (.int .u8 ((l[k]?.getD 0).toNat : Int)) := by
  obtain ⟨b, off, e, hb, hc⟩ := h.2.2.2 (by omega)
  exact ⟨b, off, e, hb, hc k hk⟩
theorem Rd.keep (h : Rd w B A n c l) (hk : ∀ p : Addr, p.block < B → w'.cell? p = w.cell? p) : Rd w' B A n c l :=
  ⟨h.1, h.2.1, h.2.2.1, fun hn => by
    obtain ⟨b, off, e, hb, hc⟩ := h.2.2.2 hn
    exact ⟨b, off, e, hb, fun j hj => (hk _ hb).trans (hc j hj)⟩⟩
theorem Rd.more (h : Rd w B A n c l) (hB : B ≤ B') : Rd w B' A n c l :=
  ⟨h.1, h.2.1, h.2.2.1, fun hn => by
    obtain ⟨b, off, e, hb, hc⟩ := h.2.2.2 hn
    exact ⟨b, off, e, by omega, hc⟩⟩
theorem Rd.below (h : Rd w B A n c l) (hb : Below B w w') : Rd w' B A n c l := h.keep fun _ hp => hb.cell hp
theorem Rd.drew (h : Rd w B A n c l) : Rd w.drew B A n c l := h
theorem Rd.drewN (h : Rd w B A n c l) (k : Nat) : Rd (w.drewN k) B A n c l := h
theorem Rd.alloc (h : Rd w B A n c l) (hB : B ≤ w.heap.size) (o : Obj) : Rd (w.alloc o) B A n c l := h.keep fun p hp => World.cell?_alloc_lt w o p (by omega)
/-- s[k:] -/
theorem Rd.from_ {k : Nat} (h : Rd w B A n c l) (hk : k ≤ n) : Rd w B (if c = k then A else A.map (·.add k)) (n - k) (c - k) (l.drop k) := by
  refine ⟨by rw [List.length_drop, h.1], by have := h.2.1; omega, by have := h.2.2.1; omega, fun hn => ?_⟩
  obtain ⟨b, off, rfl, hb, hc⟩ := h.2.2.2 (by omega)
  have := h.2.1
  rw [if_neg (by omega)]
  refine ⟨b, off + k, by simp [add_none], hb, fun j hj => ?_⟩
  have := hc (k + j) (by omega)
  rw [List.getElem?_drop, Nat.add_assoc]
  exact this
/-- s[:k] -/
theorem Rd.upto {k : Nat} (h : Rd w B A n c l) (hk : k ≤ n) : Rd w B A k c (l.take k) := by
  refine ⟨by have := h.1; simp; omega, by have := h.2.1; omega, h.2.2.1, fun hn => ?_⟩
  obtain ⟨b, off, rfl, hb, hc⟩ := h.2.2.2 (by omega)
  refine ⟨b, off, rfl, hb, fun j hj => ?_⟩
  rw [List.getElem?_take, if_pos hj]
  exact hc j (by omega)
/-- s[i:k] -/
theorem Rd.cut {i k : Nat} (h : Rd w B A n c l) (hi : i ≤ k) (hk : k ≤ n) : Rd w B (if c = i then A else A.map (·.add i)) (k - i) (c - i) ((l.take k).drop i) :=
  (h.upto hk).from_ hi
theorem Rd.cells (h : Rd w B A n c l) : (A = none → n = 0) ∧ ∀ ad, A = some ad → 0 < n → ∀ j u, (bcells l)[j]? = some u → w.cell? (ad.add j) = some u := by
  refine ⟨fun hA => ?_, fun ad hA hn j u hu => ?_⟩
  · rcases Nat.eq_zero_or_pos n with h0 | h0
    · exact h0
    · obtain ⟨b, off, e, _⟩ := h.2.2.2 h0
      rw [hA] at e; cases e
  · obtain ⟨b, off, e, _, hc⟩ := h.2.2.2 hn
    rw [hA] at e; injection e with e; subst e
    have hj : j < l.length := by
      have := (List.getElem?_eq_some_iff.1 hu).1
      simpa [bcells] using this
    rw [bcells_at hj] at hu
    injection hu with hu
    rw [add_none, ← hu]
    exact hc j (by rw [h.1]; exact hj)
end

section
variable {w w' : World} {base : Nat} {e : TypeId} {v : Value} {l : List UInt8}
theorem Own.nil (w : World) (base : Nat) (e : TypeId) : Own w base e (.slice none 0 0) [] := World.ownsRow_nil w base e 1
theorem Own.kept {row : Option Nat} (h : Own w base e v l) (hg : w.grownBy w' row) (hne : v.ownBlock = none ∨ v.ownBlock ≠ row) : Own w' base e v l := World.ownsRow.kept h hg hne
theorem Own.below (h : Own w base e v l) (hb : Below w.heap.size w w') : Own w' base e v l := by
  refine World.ownsRow.kept (row := none) h ⟨hb.os, hb.tape, hb.output, hb.size, fun k hk _ => hb.block k hk⟩ ?_
  cases hv : v.ownBlock <;> simp
theorem Own.alloc (h : Own w base e v l) (o : Obj) : Own (w.alloc o) base e v l := World.ownsRow.alloc h o
theorem Own.drew (h : Own w base e v l) : Own w.drew base e v l := h
theorem Own.drewN (h : Own w base e v l) (k : Nat) : Own (w.drewN k) base e v l := h
theorem Own.less {base' : Nat} (h : Own w base e v l) (hb : base' ≤ base) : Own w base' e v l := by
  refine ⟨h.1, ?_⟩
  rcases h.2 with h2 | ⟨g, cap, cur, hv, hg, r⟩
  · exact .inl h2
  · exact .inr ⟨g, cap, cur, hv, by omega, r⟩
theorem Own.lt (h : Own w base e v l) : ∀ k, v.ownBlock = some k → base ≤ k ∧ k < w.heap.size := World.ownsRow.lt h
/-- what is owned can be read -/
theorem Own.open_ (h : Own w base e v l) : ∃ A c, v = .slice A l.length c ∧ Rd w w.heap.size A l.length c l := by
  have hx := h
  rcases h.2 with ⟨rfl, h0⟩ | ⟨g, cap, cur, rfl, hg, hh, hnc, hcm, _⟩
  · refine ⟨none, 0, by rw [h0], rfl, by omega, by simp [maxLen], fun hp => absurd hp (by omega)⟩
  · refine ⟨some ⟨g, 0, none⟩, cap, rfl, rfl, hnc, hcm, fun hp => ⟨g, 0, rfl, (Array.getElem?_eq_some_iff.1 hh).1, fun j hj => ?_⟩⟩
    have := World.ownsRow.cells (g := g) hx rfl j _ (bcells_at hj)
    rwa [add_none] at this
end

/-- what an argument that was opened reads as -/
def bytesOf (zs : List Int) : List UInt8 := zs.map fun z => UInt8.ofNat z.toNat
theorem rd_of_open (w : World) (x : Addr) (len cap : Nat) (zs : List Int) (hl : len ≤ cap) (hm : cap ≤ maxLen) (hz : zs.length = cap)
    (hcell : ∀ i, i < zs.length → w.cell? (x.add i) = some (.int .u8 (zs.getD i 0))) (hwz : ∀ n ∈ zs, (Lit.int .u8 n).wf = true) : Rd w w.heap.size (some x) len cap (bytesOf (zs.take len)) := by
  refine ⟨by simp [bytesOf]; omega, hl, hm, fun hn => ?_⟩
  obtain ⟨b, off, spot⟩ := x
  have hspot : spot = none := by simpa [Addr.add] using World.cell?_spot (hcell 0 (by omega))
  subst hspot
  refine ⟨b, off, rfl, World.block_lt_of_cell? w _ (hcell 0 (by omega)), fun j hj => ?_⟩
  have h1 := hcell j (by omega)
  rw [add_none] at h1
  have hjz : j < zs.length := by omega
  have hw := hwz zs[j] (List.getElem_mem hjz)
  have hb : 0 ≤ zs[j] ∧ zs[j] ≤ 255 := by
    have := hw
    simp [Lit.wf, IntKind.min, IntKind.max, IntKind.signed, IntKind.bits] at this
    omega
  rw [h1]
  have e1 : zs.getD j 0 = zs[j] := by simp [List.getD, hjz]
  have e2 : (bytesOf (zs.take len))[j]?.getD 0 = UInt8.ofNat zs[j].toNat := by
    simp [bytesOf, hj, hjz]
  rw [e1, e2]
  congr 2
  rw [UInt8.toNat_ofNat']
  omega

/-- a row that has just been laid, whatever its mark -/
theorem Rd.fresh (w : World) (cs : Array Value) (e : TypeId) (m : Nat × Nat) (l : List UInt8) (hl : cs.toList = bcells l) (hn : l.length ≤ 9223372036854775807) :
    Rd (w.alloc (.cells cs e m)) (w.heap.size + 1) (some ⟨w.heap.size, 0, none⟩) l.length l.length l := by
  refine ⟨rfl, Nat.le_refl _, by simpa only [maxLen] using hn, fun _ => ⟨w.heap.size, 0, rfl, by omega, fun j hj => ?_⟩⟩
  have hh : (w.alloc (.cells cs e m)).heap[w.heap.size]? = some (.cells cs e m) := heap_alloc_new w _
  rw [cell_of_row _ w.heap.size (0 + j) cs e m hh, Nat.zero_add]
  have := bcells_at hj
  rw [← hl] at this
  simpa using this

section
variable {P : Program} (w : World)
/-- append(v, x...), v owned, x whatever can be read -/
theorem run_app (base B : Nat) (t ty e : TypeId) (i : TypeInfo) (ht : P.underlying t = some (.slice e)) (hi : P.info? e = some i) (hz : i.zero = some (.int .u8 0))
    (hsize : i.size = 1) (hby : i.bytes = 1) (v : Value) (l : List UInt8) (hown : Own w base e v l)
    (A : Option Addr) (m c : Nat) (r : List UInt8) (hr : Rd w B A m c r) (hroom : l.length + r.length ≤ 140737488355328) (hbase : base ≤ w.heap.size) :
    ∃ v' w', (Builtin.append_ #[t, t] ty #[v, .slice A m c]).run P w = .ok v' w' ∧ Own w' base e v' (l ++ r) ∧ w.grownBy w' v.ownBlock ∧
      (v'.ownBlock = v.ownBlock ∨ v'.ownBlock = some w.heap.size) := by
  have hm := hr.1
  rcases A with _ | ad
  · have h0 := hr.cells.1 rfl
    subst h0
    have hn : r = [] := List.eq_nil_of_length_eq_zero hm.symm
    subst hn
    refine ⟨v, w, ?_, by simpa using hown, ⟨rfl, rfl, rfl, Nat.le_refl _, fun _ _ _ => rfl⟩, .inl rfl⟩
    rcases hown.2 with ⟨rfl, _⟩ | ⟨g, cap, cur, rfl, _, _, hnc, _⟩
    · simp [Builtin.append_, run_underlying ht, sizeOf, typeInfo, hi, Builtin.lenOf, Builtin.firstCells]
    · simp [Builtin.append_, run_underlying ht, sizeOf, typeInfo, hi, Builtin.lenOf, Builtin.firstCells, hnc, storeCells]
  · have hcells : ∀ j u, (bcells r)[j]? = some u → w.cell? (ad.add j) = some u := by
      intro j u hu
      have hj := (List.getElem?_eq_some_iff.1 hu).1
      rw [bcells_len] at hj
      exact hr.cells.2 ad rfl (by omega) j u hu
    obtain ⟨v', w', hrun, h2, h3, _, h5⟩ := run_append_own_at (P := P) w base t ty e i (.int .u8 0) 1 1 ht hi hz hsize hby rfl (by omega) v l.length (bcells l) hown ad m c (bcells r) (by rw [bcells_len]; omega) hcells (bcells_one r)
      (by simp only [maxLen]; omega) (by omega) hbase
    refine ⟨v', w', hrun, ?_, h3, h5⟩
    unfold Own
    rw [List.length_append, bcells_app, ← hm]
    exact h2

theorem wpList_app {ops : Array Oper} {rest : List Oper} {o : Oper} {a : Act} {Q : Exit → Act → World → Prop} (hgd : o.guard = none) (s x : Operand) (t : TypeId)
    (ho : o.op = .call { callee := .builtin .append, args := #[s, x], argTypes := #[t, t] })
    (base B : Nat) (e : TypeId) (i : TypeInfo) (ht : P.underlying t = some (.slice e)) (hi : P.info? e = some i) (hz : i.zero = some (.int .u8 0)) (hsize : i.size = 1) (hby : i.bytes = 1)
    (v : Value) (l : List UInt8) (hown : Own w base e v l) (hs : a.eval s = v)
    (A : Option Addr) (m c : Nat) (r : List UInt8) (hr : Rd w B A m c r) (hx : a.eval x = .slice A m c) (hroom : l.length + r.length ≤ 140737488355328) (hbase : base ≤ w.heap.size)
    (h : ∀ v' w', Own w' base e v' (l ++ r) → w.grownBy w' v.ownBlock → (v'.ownBlock = v.ownBlock ∨ v'.ownBlock = some w.heap.size) → wpList P ops Q rest (a.put o.dst v') w') : wpList P ops Q (o :: rest) a w := by
  refine wpList_plain hgd fun K hK => ?_
  obtain ⟨v', w', hrun, h2, h3, h4⟩ := run_app (P := P) w base B t o.type e i ht hi hz hsize hby v l hown A m c r hr hroom hbase
  unfold Oper.wp execOp
  simp only [ho, resolve, invoke, builtin, Sem.run_bind, Sem.run_pure, Result.andThen_ok, List.map_toArray, List.map_cons, List.map_nil, hs, hx, hrun]
  exact hK _ _ (h v' w' h2 h3 h4)

/-- append(v, b): one byte, which was laid into a new block -/
theorem wpList_app1 {ops : Array Oper} {rest : List Oper} {o : Oper} {a : Act} {Q : Exit → Act → World → Prop} (hgd : o.guard = none) (s x : Operand) (t : TypeId)
    (ho : o.op = .call { callee := .builtin .append, args := #[s, x], argTypes := #[t, t] })
    (base : Nat) (e : TypeId) (i : TypeInfo) (ht : P.underlying t = some (.slice e)) (hi : P.info? e = some i) (hz : i.zero = some (.int .u8 0)) (hsize : i.size = 1) (hby : i.bytes = 1)
    (v : Value) (l : List UInt8) (hown : Own w base e v l) (hs : a.eval s = v) (q : Int) (b : UInt8) (hx : a.eval x = .slice (some ⟨w.heap.size, 0, none⟩) 1 1) (hq : q = (b.toNat : Int))
    (hroom : l.length + 1 ≤ 140737488355328) (hbase : base ≤ w.heap.size)
    (h : ∀ v' w', Own w' base e v' (l ++ [b]) → w.grownBy w' v.ownBlock → (v'.ownBlock = v.ownBlock ∨ v'.ownBlock = some (w.heap.size + 1)) → wpList P ops Q rest (a.put o.dst v') w') :
    wpList P ops Q (o :: rest) a (w.alloc (.cells #[.int .u8 q] e)) := by
  subst hq
  have hr : Rd (w.alloc (.cells #[.int .u8 (b.toNat : Int)] e)) (w.heap.size + 1) (some ⟨w.heap.size, 0, none⟩) 1 1 [b] := by
    refine ⟨rfl, Nat.le_refl _, by simp [maxLen], fun _ => ⟨w.heap.size, 0, rfl, by omega, fun j hj => ?_⟩⟩
    have : j = 0 := by omega
    subst this
    simp [World.cell?_alloc_new]
  refine wpList_app (w.alloc _) hgd s x t ho base (w.heap.size + 1) e i ht hi hz hsize hby v l (hown.alloc _) hs _ 1 1 [b] hr hx (by simpa using hroom) (by simp; omega) fun v' w' h1 h2 h3 => h v' w' h1 ?_ (by simpa using h3)
  exact ⟨h2.os, h2.tape, h2.output, Nat.le_trans (by simp) h2.size, fun k hk hne => (h2.block k (by simp; omega) hne).trans (Below.heap_alloc w _ k hk)⟩

/-- append(v, s...), s a string -/
theorem wpList_appS {ops : Array Oper} {rest : List Oper} {o : Oper} {a : Act} {Q : Exit → Act → World → Prop} (hgd : o.guard = none) (s x : Operand) (t u : TypeId)
    (ho : o.op = .call { callee := .builtin .append, args := #[s, x], argTypes := #[t, u] })
    (base : Nat) (e : TypeId) (i : TypeInfo) (ht : P.underlying t = some (.slice e)) (hu : P.underlying u = some .string) (hi : P.info? e = some i) (hz : i.zero = some (.int .u8 0)) (hsize : i.size = 1) (hby : i.bytes = 1)
    (v : Value) (l : List UInt8) (hown : Own w base e v l) (hs : a.eval s = v) (r : ByteArray) (hx : a.eval x = .string r) (hroom : l.length + r.size ≤ 140737488355328) (hbase : base ≤ w.heap.size)
    (h : ∀ v' w', Own w' base e v' (l ++ r.data.toList) → w.grownBy w' v.ownBlock → wpList P ops Q rest (a.put o.dst v') w') : wpList P ops Q (o :: rest) a w := by
  refine Lib.wpList_append_own_string w hgd s x t u ho base e i ht hu hi hz hsize hby v l.length (bcells l) hs hown r hx (by simp only [maxLen]; omega) hroom hbase fun v' w' h1 h2 _ => h v' w' ?_ h2
  unfold Own
  rw [List.length_append, bcells_app]
  have e1 : r.data.toList.length = r.size := by simp
  have e2 : bcells r.data.toList = Lib.strCells r := rfl
  rw [e1, e2]
  exact h1

/-- behind an append onto what the call owns nothing below 'base' has turned -/
theorem below_own {w w' : World} {base : Nat} {e : TypeId} {v : Value} {l : List UInt8} (hown : Own w base e v l) (hbase : base ≤ w.heap.size) (hg : w.grownBy w' v.ownBlock) : Below base w w' :=
  (Below.refl base w).grown hg hbase fun k hk => (hown.lt k hk).1

theorem below_undrew {B : Nat} {w w' : World} (h : Below B w.drew w') : Below B w w' := ⟨h.os, h.tape, h.output, h.size, h.block⟩
theorem below_undrewN {B n : Nat} {w w' : World} (h : Below B (w.drewN n) w') : Below B w w' := ⟨h.os, h.tape, h.output, h.size, h.block⟩

/-- string(x) -/
theorem run_str (B : Nat) (src dst e : TypeId) (hs : P.underlying src = some (.slice e)) (he : P.underlying e = some (.int .u8)) (hd : P.underlying dst = some .string)
    (A : Option Addr) (n c : Nat) (l : List UInt8) (hr : Rd w B A n c l) : (convert src dst (.slice A n c)).run P w = .ok (.string ⟨l.toArray⟩) w := by
  rw [run_convert_bytes_string w src dst e A n c hs he hd]
  have hfold : ∀ (l : List UInt8) (s : ByteArray), (l.map fun b => (b.toNat : Int)).foldl (fun r n => r.push (UInt8.ofNat n.toNat)) s = ⟨s.data ++ l.toArray⟩ := by
    intro l
    induction l with
    | nil => intro s; simp
    | cons b l ih =>
      intro s
      rw [List.map_cons, List.foldl_cons, ih]
      simp [ByteArray.push]
  rcases A with _ | ad
  · have h0 := hr.cells.1 rfl
    subst h0
    have hn : l = [] := List.eq_nil_of_length_eq_zero hr.1.symm
    subst hn
    simp [Conv.bytesToString]
    rfl
  · have hload : (loadCells ad n).run P w = .ok (bcells l).toArray w := by
      have hc : ∀ j u, (bcells l)[j]? = some u → w.cell? (ad.add j) = some u := by
        intro j u hu
        have hj := (List.getElem?_eq_some_iff.1 hu).1
        rw [bcells_len] at hj
        exact hr.cells.2 ad rfl (by have := hr.1; omega) j u hu
      have := run_loadCells_list (P := P) w ad (bcells l) hc
      rwa [bcells_len, ← hr.1] at this
    have e1 : bcells l = (l.map fun b => (b.toNat : Int)).map (Value.int .u8) := by simp [bcells, bcell, List.map_map, Function.comp_def]
    rw [e1] at hload
    rw [run_bytesToString w ad n c _ hload, hfold]
    simp
end
end Go.Proofs.YtjdkpcibdjhdoaaDoor.Mem
