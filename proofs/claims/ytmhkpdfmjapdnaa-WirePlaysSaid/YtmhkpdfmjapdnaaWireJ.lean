/-
  Acts; rows of packets that point into the argument; the document's Without.
-/
import Derived.Test.YtmhkpdfmjapdnaaWireH
import Derived.Deep.AppendLies
namespace Go.Proofs.Ytmhkpdfmjapdnaa
open Go.RowKit Mem
set_option linter.unusedVariables false
set_option maxRecDepth 100000

/-- an act: a call of a network -/
structure ActW where
  kind : Nat
  p : Pk
  A : Option Addr
  n : Nat
  c : Nat
  num : Int
instance : Inhabited ActW := ⟨⟨0, ⟨0, 0, []⟩, none, 0, 0, 0⟩⟩
def ActW.cells (x : ActW) : List Value := [.int .u8 x.kind, .int .i64 x.p.src, .int .i64 x.p.dst, .slice x.A x.n x.c, .int .i64 x.num]
def ActW.ok (w : World) (B : Nat) (x : ActW) : Prop := x.kind < 256 ∧ x.p.fits ∧ Rd w B x.A x.n x.c x.p.data ∧ x.c ≤ 140737488351232 ∧ -9223372036854775808 ≤ x.num ∧ x.num ≤ 9223372036854775807
def RdActs (w : World) (B : Nat) (A : Option Addr) (n c : Nat) (xs : List ActW) : Prop :=
  n = xs.length ∧ n ≤ c ∧ c ≤ 9223372036854775807 ∧ (∀ x ∈ xs, x.ok w B) ∧ (0 < n → ∃ b off, A = some ⟨b, off, none⟩ ∧ b < B ∧ ∀ i (hi : i < xs.length) j, j < 5 → w.cell? ⟨b, off + i * 5 + j, none⟩ = xs[i].cells[j]?)

section
variable {w w' : World} {B n c : Nat} {A : Option Addr} {xs : List ActW}
theorem RdActs.below (h : RdActs w B A n c xs) (hb : Below B w w') : RdActs w' B A n c xs := by
  obtain ⟨h1, h2, h3, h4, h5⟩ := h
  refine ⟨h1, h2, h3, fun x hx => ⟨(h4 x hx).1, (h4 x hx).2.1, (h4 x hx).2.2.1.below hb, (h4 x hx).2.2.2⟩, fun hn => ?_⟩
  obtain ⟨b, off, e, hb1, hc⟩ := h5 hn
  exact ⟨b, off, e, hb1, fun i hi j hj => (hb.cell (p := ⟨b, off + i * 5 + j, none⟩) hb1).trans (hc i hi j hj)⟩
end

theorem Try.actStruct : ∃ f0 f1 f2 : Field, Try.prog.underlying 31 = some (.struct #[f0, f1, f2]) ∧ (f0.type = 5 ∧ f0.offset = 0) ∧ (f1.type = 29 ∧ f1.offset = 1) ∧ (f2.type = 3 ∧ f2.offset = 4) :=
  ⟨_, _, _, Try.underlying31, ⟨rfl, rfl⟩, ⟨rfl, rfl⟩, ⟨rfl, rfl⟩⟩
theorem Try.actCells : Try.prog.cellsOf 31 = 5 := by kernel_rfl
theorem Try.actCells' : 0 < Try.prog.cellsOf 31 := by rw [Try.actCells]; omega

section
variable {H : Type} {enc : TypeId × Value → H} {w : World} {base fuel : Nat} {held : Bool}
theorem act_cells {cs : List Value} {x : DataW H × List MemPlace} (h : DataW.trod enc Try.prog w base (fun _ => true) held fuel 31 cs = some x) (hw : Light Try.prog 31 x.1) :
    ∃ a : ActW, cs = a.cells ∧ a.ok w w.heap.size := by
  obtain ⟨f0, f1, f2, hs, ⟨t0, o0⟩, ⟨t1, o1⟩, ⟨t2, o2⟩⟩ := Try.actStruct
  obtain ⟨hl, m, hf⟩ := open_fields hs h hw
  rw [Try.actCells] at hl
  match cs, hl with
  | [c0, c1, c2, c3, c4], _ =>
    obtain ⟨y0, g0, _⟩ := hf 0 f0 rfl
    obtain ⟨y1, g1, l1⟩ := hf 1 f1 rfl
    obtain ⟨y2, g2, _⟩ := hf 2 f2 rfl
    rw [t0, o0, Try.byteCells] at g0
    rw [t1] at l1
    rw [t1, o1, Try.packetCells] at g1
    rw [t2, o2, Try.intCells] at g2
    obtain ⟨k, rfl, hk⟩ := open_u8 Try.underlying5 g0
    obtain ⟨q, A, n, c, hq, hfit, hr, hc⟩ := packet_cells g1 l1
    have hq : [c1, c2, c3] = [.int .i64 q.src, .int .i64 q.dst, .slice A n c] := hq
    simp only [List.cons.injEq, and_true] at hq
    obtain ⟨rfl, rfl, rfl⟩ := hq
    obtain ⟨z, rfl, hz1, hz2⟩ := open_i64 Try.underlying3 g2
    exact ⟨⟨k, q, A, n, c, z⟩, rfl, hk, hfit, hr, hc, hz1, hz2⟩

theorem open_acts {r : Reach} {b0 : Nat} {v : Value} {d : DataW H} {p : List MemPlace} (hv : Value.okWide Try.prog w r b0 22 v) (h : DataW.Trod enc Try.prog w base (fun _ => true) held 22 v d p) (hw : Light Try.prog 22 d) :
    ∃ A n c xs, v = .slice A n c ∧ RdActs w w.heap.size A n c xs := by
  obtain ⟨A0, n0, c0, rfl⟩ := Go.WideShapes.okWide_slice Try.underlying22 hv
  obtain ⟨fuel, hf⟩ := h
  obtain ⟨A, n, c, hcs, hl, hm, _, hel⟩ := open_elems Try.underlying22 Try.actCells' (v := .slice A0 n0 c0) (by simpa [Value.cells] using hf) hw
  injection hcs with e1 e2 e3
  subst e1 e2 e3
  have hm' : c0 ≤ 9223372036854775807 := by simpa only [maxLen] using hm
  rcases Nat.eq_zero_or_pos n0 with h0 | h0
  · subst h0
    exact ⟨A0, 0, c0, [], rfl, rfl, hl, hm', by simp, fun h => absurd h (by omega)⟩
  · obtain ⟨b, off, rfl, hb, m, hi⟩ := hel h0
    have each : ∀ i, i < n0 → ∃ x : ActW, x.ok w w.heap.size ∧ ∀ j, j < 5 → w.cell? ⟨b, off + i * 5 + j, none⟩ = x.cells[j]? := fun i hin => by
      obtain ⟨cs, y, hlen, hat, htr, hlt⟩ := hi i hin
      obtain ⟨a, rfl, hok⟩ := act_cells htr hlt
      rw [Try.actCells] at hat
      exact ⟨a, hok, fun j hj => by have := hat j hj; rwa [← Nat.add_assoc] at this⟩
    obtain ⟨f, hfx⟩ := Go.Deep.choose_lt each
    refine ⟨_, n0, c0, (List.range n0).map f, rfl, by simp, hl, hm', fun x hx => ?_, fun _ => ⟨b, off, rfl, hb, fun i hi j hj => ?_⟩⟩
    · obtain ⟨i, hi, rfl⟩ := List.mem_map.1 hx
      exact (hfx i (List.mem_range.1 hi)).1
    · have hin : i < n0 := by simpa using hi
      have e : ((List.range n0).map f)[i] = f i := by simp
      rw [e]
      exact (hfx i hin).2 j hj
end

/-! rows of packets whose bytes lie in the argument -/
def xc (x : Pk × Option Addr × Nat × Nat) : List Value := [.int .i64 x.1.src, .int .i64 x.1.dst, .slice x.2.1 x.2.2.1 x.2.2.2]
def xcells (ls : Xs) : List Value := ls.flatMap xc
theorem xcells_app (a b : Xs) : xcells (a ++ b) = xcells a ++ xcells b := by simp [xcells]
theorem xcells_len (l : Xs) : (xcells l).length = l.length * 3 := by
  induction l with
  | nil => rfl
  | cons a r ih => show (xc a ++ xcells r).length = _; rw [List.length_append, ih]; simp [xc]; omega
theorem xcells_at {l : Xs} {i : Nat} (hi : i < l.length) : (xcells l)[i * 3]? = some (.int .i64 l[i].1.src) ∧ (xcells l)[i * 3 + 1]? = some (.int .i64 l[i].1.dst) ∧ (xcells l)[i * 3 + 2]? = some (.slice l[i].2.1 l[i].2.2.1 l[i].2.2.2) := by
  induction l generalizing i with
  | nil => simp at hi
  | cons a r ih =>
    have e : xcells (a :: r) = .int .i64 a.1.src :: .int .i64 a.1.dst :: .slice a.2.1 a.2.2.1 a.2.2.2 :: xcells r := rfl
    rw [e]
    cases i with
    | zero => simp
    | succ j =>
      have := ih (i := j) (by simpa using hi)
      rw [show (j + 1) * 3 = j * 3 + 3 by omega]
      simpa using this
def LRow (w : World) (base : Nat) (v : Value) (ls : Xs) : Prop := w.ownsRow base 29 3 v ls.length (xcells ls)
theorem LRow.form {w : World} {base : Nat} {v : Value} {ls : Xs} (h : LRow w base v ls) : ∃ A c, v = .slice A ls.length c ∧ ls.length ≤ c ∧ c ≤ 9223372036854775807 := by
  rcases h.2 with ⟨rfl, h0⟩ | ⟨g, cap, cur, rfl, _, _, h1, h2, _⟩
  · exact ⟨none, 0, by rw [h0], by omega, by omega⟩
  · exact ⟨_, cap, rfl, h1, by simpa only [maxLen] using h2⟩
theorem LRow.look {w : World} {base i : Nat} {A : Option Addr} {n c : Nat} {ls : Xs} (h : LRow w base (.slice A n c) ls) (hi : i < ls.length) : ∃ g, A = some ⟨g, 0, none⟩ ∧ base ≤ g ∧ g < w.heap.size ∧
    w.cell? ⟨g, i * 3, none⟩ = some (.int .i64 ls[i].1.src) ∧ w.cell? ⟨g, i * 3 + 1, none⟩ = some (.int .i64 ls[i].1.dst) ∧ w.cell? ⟨g, i * 3 + 2, none⟩ = some (.slice ls[i].2.1 ls[i].2.2.1 ls[i].2.2.2) := by
  have hrow := h
  rcases h.2 with ⟨h2, h0⟩ | ⟨g, cap, cur, hv, hg, hh, h1, h2, _⟩
  · omega
  · injection hv with e1 e2 e3
    subst e1 e2 e3
    obtain ⟨k1, k2, k3⟩ := xcells_at hi
    have hat : ∀ j, j < 3 → w.cell? ⟨g, i * 3 + j, none⟩ = (xcells ls)[i * 3 + j]? := fun j hj => World.ownsRow.cellAt hrow (i * 3 + j) (by omega)
    exact ⟨g, rfl, hg, (Array.getElem?_eq_some_iff.1 hh).1, (hat 0 (by omega)).trans k1, (hat 1 (by omega)).trans k2, (hat 2 (by omega)).trans k3⟩
theorem LRow.below {w w' : World} {base : Nat} {v : Value} {ls : Xs} (h : LRow w base v ls) (hb : Below w.heap.size w w') : LRow w' base v ls := ownsRow_turned (G := fun _ => False) h (Turned.of_below hb) (fun _ _ h => h)
theorem LRow.alloc {w : World} {base : Nat} {v : Value} {ls : Xs} (h : LRow w base v ls) (o : Obj) : LRow (w.alloc o) base v ls := h.below ((Below.refl _ w).alloc (Nat.le_refl _) o)

theorem erase_step {ls : Xs} {i N : Nat} (h : i < ls.length) : (ls.take (i + 1)).eraseIdx N = if i = N then (ls.take i).eraseIdx N else (ls.take i).eraseIdx N ++ [ls[i]] := by
  have hl : (ls.take i).length = i := by rw [List.length_take]; omega
  rw [List.take_succ_eq_append_getElem h]
  rcases Nat.lt_trichotomy N i with hlt | heq | hgt
  · rw [if_neg (by omega), List.eraseIdx_append_of_lt_length (by rw [hl]; exact hlt)]
  · subst heq
    have e1 : (ls.take N).eraseIdx N = ls.take N := List.eraseIdx_of_length_le (by rw [hl]; exact Nat.le_refl _)
    rw [if_pos rfl, e1, List.eraseIdx_append_of_length_le (by rw [hl]; exact Nat.le_refl _), hl, Nat.sub_self]
    simp
  · rw [if_neg (by omega), List.eraseIdx_of_length_le (by simp; omega), List.eraseIdx_of_length_le (by rw [hl]; omega)]

def Outs (w : World) (v : Value) (ls : Xs) (wr : World) : Prop := LRow wr w.heap.size v ls ∧ Below w.heap.size w wr

set_option maxHeartbeats 1000000 in
theorem without_any (A : Option Addr) (c N : Nat) (ls : Xs) (base : Nat) (w : World) (h : LRow w base (.slice A ls.length c) ls) (hl : ls.length ≤ 1000) (hN : N < ls.length) :
    Calls Try.prog 13 #[.slice A ls.length c, .int .i64 N] w (fun e w' => ∃ v, e = .returned v ∧ Outs w v (ls.eraseIdx N) w') := by
  obtain ⟨i0, hi, hz0, hz1, hz2⟩ := info_parts Try.infoP
  have HI := Lib.hid hi; have HZ0 := Lib.hid hz0; have HZ1 := Lib.hid hz1; have HZ2 := Lib.hid hz2
  clear hi hz0 hz1 hz2
  obtain ⟨A', c', hv', hcl, hcm⟩ := h.form
  injection hv' with e1 e2 e3
  subst e1 e3
  have HL := Lib.hid h
  clear h e2
  generalize hn : ls.length = n at *
  have HN := Lib.hid hn
  clear hn
  have HS := Lib.hid (show Outs w (.slice none 0 0) ((ls.take 0).eraseIdx N) w from ⟨World.ownsRow_nil _ _ _ _, Below.refl _ _⟩)
  go_enter Try.func13, Try.ntmps13
  go_wp2
  go_loopw [5, 6] (fun o p wr => ∃ (i : Nat) (A2 : Option Addr) (m c2 : Nat), p = .int .i64 i ∧ o = .slice A2 m c2 ∧ i ≤ n ∧ Hid (Outs w (.slice A2 m c2) ((ls.take i).eraseIdx N) wr)) (fun _ p _ => n - (intOf p).toNat)
  case atStart => exact ⟨0, none, 0, 0, rfl, rfl, Nat.zero_le _, HS⟩
  case round =>
    obtain ⟨i, A2, m, c2, rfl, rfl, hi, HO⟩ := hrel
    rename World => wr
    by_cases hlt : i < n
    · have hxi : i < ls.length := by have := HN.out; omega
      obtain ⟨hrow, hb⟩ := HO.out
      obtain ⟨g, hA, hg0, hg1, k0, k1, k2⟩ := (HL.out.below hb).look hxi
      subst hA
      have hst := erase_step (N := N) hxi
      obtain ⟨A3, c3, hv3, _, _⟩ := hrow.form
      have hm3 : ((ls.take i).eraseIdx N).length = m := by injection hv3 with _ e2 _; exact e2.symm
      have hm2 : m ≤ 1000 := by rw [← hm3]; have := List.length_eraseIdx_le (ls.take i) N; simp at this; omega
      by_cases hNi : i = N
      · subst hNi
        rw [if_pos rfl] at hst
        have HO2 := Lib.hid (show Outs w (.slice A2 m c2) ((ls.take (i + 1)).eraseIdx i) wr by rw [hst]; exact HO.out)
        have hne : ((i : Int) != (i : Int)) = false := by simp
        clear hrow hb hst hv3 hm3
        go_wp2
        go_roundw
        case rel => exact ⟨i + 1, A2, m, c2, by go_num, rfl, by omega, HO2⟩
        case measure => simp [intOf]; omega
      · rw [if_neg hNi] at hst
        have HST := Lib.hid hst
        have HROW := Lib.hid hrow; have HB := Lib.hid hb; have HM3 := Lib.hid hm3
        have hszw : w.heap.size ≤ wr.heap.size := hb.size
        have hne : ((i : Int) != (N : Int)) = true := by simp; omega
        clear hrow hb hst hv3 hm3
        generalize ls[i] = x at *
        obtain ⟨q, A5, n5, c5⟩ := x
        simp only at k0 k1 k2
        have HRM := Lib.hid (show wr.ownsRow w.heap.size 29 3 (.slice A2 m c2) m (xcells ((ls.take i).eraseIdx N)) by have := HROW.out; unfold LRow at this; rwa [HM3.out] at this)
        go_wp2_with (at_builtin; go_must (refine wpList_append_lies _ rfl (.tmp 16) (.tmp 21) _ rfl w.heap.size 29 i0 _ 3 40 Try.underlying26 HI.out HZ0.out HZ1.out HZ2.out rfl (by omega) (.slice A2 m c2) m _ rfl (HRM.out.alloc _) ⟨wr.heap.size, 0, none⟩ 1 1 [.int .i64 q.src, .int .i64 q.dst, .slice A5 n5 c5] rfl rfl (World.news_of_block (cs := #[.int .i64 q.src, .int .i64 q.dst, .slice A5 n5 c5]) (t := 29) (fr := (0, 0)) (heap_alloc_new wr _)) (by simp [Value.oneCell']) (by omega) (by simp only [maxLen]; omega) (by omega) (by simp; omega) (wr.heap.size + 1) (by simp) ?_))
        intro g9 cap9 w9 hown9 hgrow9 hat9 hlt9
        have HO9 := Lib.hid (show Outs w (.slice (some ⟨g9, 0, none⟩) (m + 1) cap9) ((ls.take (i + 1)).eraseIdx N) w9 by
          refine ⟨?_, ?_⟩
          · unfold LRow
            rw [HST.out, xcells_app, List.length_append, HM3.out]
            exact hown9
          · exact ((HB.out.alloc hszw _).grown hgrow9 (by simp; omega) (fun k hk => (HRM.out.lt k hk).1)))
        clear hown9 hgrow9 hat9
        go_wp2
        go_roundw
        case rel => exact ⟨i + 1, _, m + 1, cap9, by go_num, rfl, by omega, HO9⟩
        case measure => simp [intOf]; omega
    · have hfull : (ls.take i).eraseIdx N = ls.eraseIdx N := by rw [List.take_of_length_le (by have := HN.out; omega)]
      have HO2 := Lib.hid (show Outs w (.slice A2 m c2) (ls.eraseIdx N) wr by rw [← hfull]; exact HO.out)
      clear hfull
      go_wp2
      go_ret
      exact ⟨_, rfl, HO2.out⟩
end Go.Proofs.Ytmhkpdfmjapdnaa
