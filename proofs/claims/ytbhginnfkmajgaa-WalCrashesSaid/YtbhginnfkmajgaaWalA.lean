/-
  Rows of records in memory ('RecsAt'), and what wal.Scan does, by a contract.
-/
import Derived.Test.YtbhginnfkmajgaaWalMath
import Derived.Test.YtbhginnfkmajgaaPackO
import Derived.Test.YtbhginnfkmajgaaDiskR
import Derived.Deep.AppendLies
namespace Go.Proofs.Ytbhginnfkmajgaa
open Go.RowKit Mem
set_option linter.unusedVariables false
set_option maxRecDepth 100000

theorem Try.infoR : (Try.prog.info? 34).map (fun i => (i.zero, i.size, i.bytes)) = some (some (.slice none 0 0), 1, 24) := by kernel_rfl

/-- a record: its slice, its bytes -/
structure Rec where
  v : Value
  l : List UInt8
def recs (rs : List Rec) : List (List UInt8) := rs.map Rec.l

/-- the slice v holds the records rs; all their blocks are of F -/
def RecsAt (w : World) (F : Nat → Prop) (v : Value) (rs : List Rec) : Prop :=
  w.ownsRow 0 34 1 v rs.length (rs.map Rec.v) ∧ (∀ k, v.ownBlock = some k → F k) ∧ ∀ r ∈ rs, Own w 0 5 r.v r.l ∧ (∀ k, r.v.ownBlock = some k → F k) ∧ r.l.length ≤ 65535

section
variable {w w' : World} {F F' G : Nat → Prop} {v : Value} {rs : List Rec}
theorem row_turned {base n size : Nat} {e : TypeId} {xs : List Value} (h : w.ownsRow base e size v n xs) (ht : Turned G w w') (hn : ∀ k, v.ownBlock = some k → ¬ G k) : w'.ownsRow base e size v n xs := by
  refine ⟨h.1, ?_⟩
  rcases h.2 with h2 | ⟨g, cap, cur, rfl, hg, hh, r⟩
  · exact .inl h2
  · exact .inr ⟨g, cap, cur, rfl, hg, (ht.block g (Array.getElem?_eq_some_iff.1 hh).1 (hn g rfl)).trans hh, r⟩
theorem row_block {n size base : Nat} {e : TypeId} {xs : List Value} {k : Nat} (h : w.ownsRow base e size v n xs) (hk : v.ownBlock = some k) : ∃ cur, w.heap[k]? = some (.cells cur e (0, 0)) := by
  rcases h.2 with ⟨rfl, _⟩ | ⟨g, cap, cur, rfl, _, hh, _⟩
  · cases hk
  · simp only [Value.ownBlock, Option.some.injEq] at hk
    subst hk
    exact ⟨cur, hh⟩
theorem RecsAt.nil : RecsAt w F (.slice none 0 0) [] := ⟨World.ownsRow_nil _ _ _ _, by simp [Value.ownBlock], by simp⟩
theorem RecsAt.turned (h : RecsAt w F v rs) (ht : Turned G w w') (hd : ∀ k, F k → ¬ G k) : RecsAt w' F v rs :=
  ⟨row_turned h.1 ht (fun k hk => hd k (h.2.1 k hk)), h.2.1, fun r hr => ⟨(h.2.2 r hr).1.turned ht (fun k hk => hd k ((h.2.2 r hr).2.1 k hk)), (h.2.2 r hr).2⟩⟩
theorem RecsAt.below (h : RecsAt w F v rs) (hb : Below w.heap.size w w') : RecsAt w' F v rs := h.turned (G := fun _ => False) (Turned.of_below hb) (fun _ _ h => h)
theorem RecsAt.alloc (h : RecsAt w F v rs) (o : Obj) : RecsAt (w.alloc o) F v rs := h.below ((Below.refl _ w).alloc (Nat.le_refl _) o)
theorem RecsAt.more (h : RecsAt w F v rs) (hF : ∀ k, F k → F' k) : RecsAt w F' v rs := ⟨h.1, fun k hk => hF k (h.2.1 k hk), fun r hr => ⟨(h.2.2 r hr).1, fun k hk => hF k ((h.2.2 r hr).2.1 k hk), (h.2.2 r hr).2.2⟩⟩
theorem RecsAt.form (h : RecsAt w F v rs) : ∃ A c, v = .slice A rs.length c ∧ rs.length ≤ c ∧ c ≤ 9223372036854775807 := by
  rcases h.1.2 with ⟨rfl, h0⟩ | ⟨g, cap, cur, rfl, _, _, h1, h2, _⟩
  · exact ⟨none, 0, by rw [h0], by omega, by omega⟩
  · exact ⟨_, cap, rfl, h1, by simpa only [maxLen] using h2⟩
/-- one more record -/
theorem RecsAt.grow {gg cap : Nat} {r : Rec} {o : Obj} (h : RecsAt w F v rs) (hr : Own w 0 5 r.v r.l) (hl : r.l.length ≤ 65535) (hrF : ∀ k, r.v.ownBlock = some k → F k) (hgg : v.ownBlock = some gg ∨ F gg)
    (hrow : w'.ownsRow 0 34 1 (.slice (some ⟨gg, 0, none⟩) (rs.length + 1) cap) (rs.length + 1) (rs.map Rec.v ++ [r.v])) (hgrow : (w.alloc o).grownBy w' v.ownBlock) :
    RecsAt w' F (.slice (some ⟨gg, 0, none⟩) (rs.length + 1) cap) (rs ++ [r]) := by
  have hne : ∀ s : Rec, Own w 0 5 s.v s.l → s.v.ownBlock = none ∨ s.v.ownBlock ≠ v.ownBlock := fun s hs => by
    rcases hb : s.v.ownBlock with _ | k
    · exact .inl rfl
    · refine .inr (fun e => ?_)
      obtain ⟨cur, hh⟩ := own_heap hs hb
      obtain ⟨cur2, hh2⟩ := row_block h.1 e.symm
      have := hh.symm.trans hh2
      simp at this
  have hold : ∀ s : Rec, Own w 0 5 s.v s.l → Own w' 0 5 s.v s.l := fun s hs => (hs.alloc o).kept hgrow (hne s hs)
  refine ⟨?_, ?_, ?_⟩
  · rw [List.length_append, List.map_append]
    exact hrow
  · intro k hk
    injection hk with hk
    have hk : gg = k := hk
    subst hk
    exact hgg.elim (fun e => h.2.1 gg e) id
  · intro s hs
    rcases List.mem_append.1 hs with hs | hs
    · exact ⟨hold s (h.2.2 s hs).1, (h.2.2 s hs).2⟩
    · simp only [List.mem_singleton] at hs
      subst hs
      exact ⟨hold s hr, hrF, hl⟩
theorem rec_one {r : Rec} {b : Nat} (h : Own w b 5 r.v r.l) : r.v.oneCell' = true := by
  obtain ⟨A, c, hv, _⟩ := h.open_
  rw [hv]; rfl
end

/-- what Scan tells: records in new memory -/
def Scanned (l : List UInt8) (w : World) (e : Ending) (w' : World) : Prop :=
  ∃ v rs, e = .returned (.tuple #[v, .int .i64 ((M.scan l).2 : Int)]) ∧ RecsAt w' (fun k => w.heap.size ≤ k) v rs ∧ recs rs = (M.scan l).1 ∧ Below w.heap.size w w'

def ScanInv (l : List UInt8) (w : World) (k : Nat) (v : Value) (rs : List Rec) (wr : World) : Prop :=
  RecsAt wr (fun b => w.heap.size ≤ b) v rs ∧ Below w.heap.size w wr ∧ recs rs ++ (M.scanFrom l k).1 = (M.scan l).1 ∧ (M.scanFrom l k).2 = (M.scan l).2

set_option maxHeartbeats 1000000 in
theorem scan_any (A : Option Addr) (n c B : Nat) (l : List UInt8) (w : World) (h : Rd w B A n c l) (hB : B ≤ w.heap.size) (hl : n ≤ 1073741824) :
    Calls Try.prog 20 #[.slice A n c] w (Scanned l w) := by
  obtain ⟨i0, hi, hz0, hz1, hz2⟩ := info_parts Try.infoR
  have HI := Lib.hid hi; have HZ0 := Lib.hid hz0; have HZ1 := Lib.hid hz1; have HZ2 := Lib.hid hz2
  clear hi hz0 hz1 hz2
  have HN := Lib.hid h.len; have HR := Lib.hid h
  have hc := h.cap; have hcm := h.max
  clear h
  have HS0 := Lib.hid (show ScanInv l w 0 (.slice none 0 0) [] w from ⟨RecsAt.nil, Below.refl _ _, rfl, rfl⟩)
  go_enter Try.func20, Try.ntmps20
  go_wp2
  go_loopw [4, 5] (fun o p wr => ∃ (k m c2 : Nat) (A2 : Option Addr) (rs : List Rec), p = .int .i64 k ∧ o = .slice A2 m c2 ∧ k ≤ n ∧ m ≤ k ∧ Hid (rs.length = m) ∧ Hid (ScanInv l w k (.slice A2 m c2) rs wr)) (fun _ p _ => n - (intOf p).toNat)
  case atStart => exact ⟨0, 0, 0, none, [], rfl, rfl, Nat.zero_le _, Nat.le_refl _, Lib.hid rfl, HS0⟩
  case round =>
    obtain ⟨k, m, c2, A2, rs, rfl, rfl, hk, hmk, HM, HV⟩ := hrel
    rename World => wr
    obtain ⟨hrec, hb, hs1, hs2⟩ := HV.out
    have hrf := readFrame_own A n c B l (k : Int) wr (HR.out.below (hb.mono hB)) (Nat.le_trans hB hb.size) (by omega) (by omega) (by omega)
    have hbs : w.heap.size ≤ wr.heap.size := hb.size
    by_cases hok : (M.rdFrame l (k : Int)).2.2 = 0
    · obtain ⟨a1, a2, a3, a4⟩ := M.rdFrame_adv hok
      have hsf := M.scanFrom_ok hok
      rw [hsf] at hs1 hs2
      have HS1 := Lib.hid hs1; have HS2 := Lib.hid hs2; have HREC := Lib.hid hrec; have HB := Lib.hid hb
      have HOK := Lib.hid hok
      have hln : l.length = n := HN.out.symm
      rw [hln] at a2
      have HA4 := Lib.hid a4
      generalize hrr : M.rdFrame l (k : Int) = rr at *
      obtain ⟨p, nx, er⟩ := rr
      simp only at hrf a1 a2 HS1 HS2 HOK HA4 hok
      subst hok
      have HRF := Lib.hid hrf
      clear hrf hs1 hs2 hrec hb hsf hln a3 a4 hrr HOK
      go_wp2_with fail
      refine HRF.out.mono ?_
      rintro e w1 ⟨A1, n1, c1, rfl, hown1, hb1⟩
      have HROW1 := Lib.hid (HREC.out.below hb1)
      have HRM := Lib.hid (show w1.ownsRow 0 34 1 (.slice A2 m c2) m (rs.map Rec.v) by have := HROW1.out.1; rwa [HM.out] at this)
      have HOWN1 := Lib.hid hown1
      have HB1 := Lib.hid (HB.out.trans (hb1.mono HB.out.size))
      have hw1 : wr.heap.size ≤ w1.heap.size := hb1.size
      clear hown1 hb1
      go_wp2_with (at_builtin; go_must (refine wpList_append_lies _ rfl (.tmp 20) (.tmp 22) _ rfl 0 34 i0 _ 1 24 Try.underlying22 HI.out HZ0.out HZ1.out HZ2.out rfl (by omega) (.slice A2 m c2) m _ rfl (HRM.out.alloc _) ⟨w1.heap.size, 0, none⟩ 1 1 [.slice A1 n1 c1] rfl rfl (World.news_of_block (cs := #[.slice A1 n1 c1]) (t := 34) (fr := (0, 0)) (heap_alloc_new w1 _)) (by simp [Value.oneCell']) (by omega) (by simp only [maxLen]; omega) (by omega) (Nat.zero_le _) (w1.heap.size + 1) (by simp) ?_))
      intro g9 cap9 w9 hown9 hgrow9 hat9 hlt9
      have hR9 := HROW1.out.grow (gg := g9) (cap := cap9) (r := ⟨.slice A1 n1 c1, p⟩) (HOWN1.out.less (Nat.zero_le _)) HA4.out (fun k' hk' => Nat.le_trans hbs (HOWN1.out.lt k' hk').1) (hat9.imp id (fun e => by omega)) (by rw [HM.out]; exact hown9) hgrow9
      rw [HM.out] at hR9
      have HV9 := Lib.hid (show ScanInv l w nx (.slice (some ⟨g9, 0, none⟩) (m + 1) cap9) (rs ++ [⟨.slice A1 n1 c1, p⟩]) w9 from
        ⟨hR9, (HB1.out.alloc HB1.out.size _).grown hgrow9 (by have := HB1.out.size; simp; omega) (fun k' hk' => HROW1.out.2.1 k' hk'), by rw [← HS1.out]; simp [recs], HS2.out⟩)
      have HM9 := Lib.hid (show (rs ++ [(⟨.slice A1 n1 c1, p⟩ : Rec)]).length = m + 1 by rw [List.length_append, HM.out]; rfl)
      clear hown9 hgrow9 hat9 hR9
      go_wp2
      go_roundw
      case rel => exact ⟨nx, m + 1, cap9, _, _, rfl, rfl, by omega, by omega, HM9, HV9⟩
      case measure => simp [intOf]; omega
    · have hsf := M.scanFrom_no hok
      rw [hsf] at hs1 hs2
      have HS1 := Lib.hid hs1; have HS2 := Lib.hid hs2; have HREC := Lib.hid hrec; have HB := Lib.hid hb
      generalize M.rdFrame l (k : Int) = rr at *
      obtain ⟨p, nx, er⟩ := rr
      simp only at hrf hok
      have HRF := Lib.hid hrf
      have hq : ((er : Int) != 0) = true := by simp; omega
      clear hrf hs1 hs2 hrec hb hsf
      go_wp2_with fail
      refine HRF.out.mono ?_
      rintro e w1 ⟨A1, n1, c1, rfl, hown1, hb1⟩
      have HB1 := Lib.hid hb1
      clear hown1 hb1
      go_wp2
      go_ret2
      refine ⟨_, rs, by rw [← HS2.out]; rfl, HREC.out.below HB1.out, ?_, HB.out.trans (HB1.out.mono HB.out.size)⟩
      have := HS1.out
      simpa using this
end Go.Proofs.Ytbhginnfkmajgaa
