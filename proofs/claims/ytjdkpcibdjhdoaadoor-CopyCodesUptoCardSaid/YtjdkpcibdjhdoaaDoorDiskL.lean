/-
  What Read, Arm, Ops, Used, On and Put do, by contracts.
-/
import Derived.Test.YtjdkpcibdjhdoaaDoorDiskK
import Derived.Lib.SliceRun
namespace Go.Proofs.YtjdkpcibdjhdoaaDoor
open Go.RowKit Mem FM

/-- new bytes l, and nothing that was there has turned -/
def Gives (w : World) (l : List UInt8) (e : Ending) (w' : World) : Prop := ∃ v, e = .returned v ∧ Own w' w.heap.size 5 v l ∧ Below w.heap.size w w'

theorem own_empty (w : World) (e : TypeId) : Own (w.alloc (.cells #[] e (0, 0))) w.heap.size e (.slice (some ⟨w.heap.size, 0, none⟩) 0 0) [] :=
  ⟨rfl, .inr ⟨w.heap.size, 0, #[], rfl, Nat.le_refl _, heapNew _, Nat.le_refl _, Nat.zero_le _, rfl, rfl⟩⟩

set_option maxRecDepth 100000 in
set_option maxHeartbeats 400000 in
theorem clone_any (B : Nat) (A : Option Addr) (n c : Nat) (l : List UInt8) (w : World) (hr : Rd w B A n c l) (hB : B ≤ w.heap.size) (hl : l.length ≤ 140737488355328) : Calls Tryd.prog 70 #[.slice A n c] w (Gives w l) := by
  obtain ⟨i0, hi, hz0, hz1, hz2⟩ := info_parts Tryd.info_byte
  have HI := Lib.hid hi; have HZ0 := Lib.hid hz0; have HZ1 := Lib.hid hz1; have HZ2 := Lib.hid hz2
  clear hi hz0 hz1 hz2
  rcases A with _ | a
  · have h0 := hr.cells.1 rfl
    have hnil := Lib.run_eql_slice_nil (P := Tryd.prog) w 27 5 none 0 c 0 0 Tryd.underlying27
    have hl0 : l = [] := List.eq_nil_of_length_eq_zero (by rw [← hr.len]; exact h0)
    subst hl0
    subst h0
    clear hr
    go_enter Tryd.func70, Tryd.ntmps70
    go_wp2
    go_ret
    exact ⟨_, rfl, Own.nil _ _ _, Below.refl _ _⟩
  · have hr1 := hr.alloc hB (.cells #[] 5)
    have hnil := Lib.run_eql_slice_nil (P := Tryd.prog) w 27 5 (some a) n c 0 0 Tryd.underlying27
    go_enter Tryd.func70, Tryd.ntmps70
    go_wp2_with (at_builtin; go_must (refine wpList_app _ rfl (.tmp 5) (.tmp 6) _ rfl w.heap.size B _ i0 Tryd.underlying27 HI.out HZ0.out HZ1.out HZ2.out _ [] (own_empty w _) rfl _ _ _ l hr1 rfl ?_ ?_ ?_))
    · simpa using hl
    · simp
    intro v' w1 hown hg hat
    have hb := below_own (own_empty w 5) (by simp) hg
    go_wp2
    go_ret
    exact ⟨v', rfl, hown, ((Below.refl _ w).alloc (Nat.le_refl _) _).trans hb⟩

def readR (s : St) (nm : ByteArray) : List UInt8 × Int :=
  if ready1 nm s.off = 0 then
    match find nm.data.toList s.files with
    | none => ([], 8)
    | some f => (f.data, 0)
  else ([], ready1 nm s.off)

/-- the bytes and the answer; the disk is as it was -/
def ReadOf (F : Nat → Prop) (D : Nat) (s : St) (r : List UInt8 × Int) (w : World) (e : Ending) (w' : World) : Prop :=
  ∃ v, e = .returned (.tuple #[v, .int .i64 r.2]) ∧ Own w' w.heap.size 5 v r.1 ∧ Below w.heap.size w w' ∧ DiskAt w' F D s

theorem DiskAt.below {w w' : World} {F : Nat → Prop} {D : Nat} {s : St} (h : DiskAt w F D s) (hb : Below w.heap.size w w') : DiskAt w' F D s :=
  h.far (G := fun _ => False) (Turned.of_below hb) (fun _ _ h => h)

set_option maxRecDepth 100000 in
set_option maxHeartbeats 400000 in
theorem read_any (D : Nat) (F : Nat → Prop) (s : St) (nm : ByteArray) (w : World) (h : DiskAt w F D s) (hs : nm.size ≤ 9223372036854775807) :
    Calls Tryd.prog 53 #[.pointer (some ⟨D, 0, none⟩), .string nm] w (ReadOf F D s (readR s nm) w) := by
  have h1 := h.alloc (.cells #[.string nm] 9)
  have HR := Lib.hid (ready_one D w.heap.size nm s.off _ hs h1.off_ ((cellAt 0 (heapNew (w := w) (.cells #[.string nm] 9 (0, 0)))).trans rfl))
  have HB1 := Lib.hid ((Below.refl w.heap.size w).alloc (Nat.le_refl _) (.cells #[.string nm] 9))
  have HE := Lib.hid (show readR s nm = if ready1 nm s.off = 0 then (match find nm.data.toList s.files with | none => ([], 8) | some f => (f.data, 0)) else ([], ready1 nm s.off) from rfl)
  have HD1 := Lib.hid h1
  clear h1
  by_cases hrd : ready1 nm s.off = 0
  · obtain ⟨b, nn, cs, hdb, hFD, hfs, hnn, hcs, -⟩ := HD1.out
    have hlook := hfs.look nm hs
    have c2 := hdb.c2
    have HF := Lib.hid (show find nm.data.toList s.files = (find nm.data.toList cs).map File.bare by rw [← hcs, bare_find])
    cases hcf : find nm.data.toList cs with
    | none =>
      rw [hcf] at hlook
      simp only at hlook
      have HE2 := Lib.hid (show readR s nm = ([], 8) by rw [HE.out, if_pos hrd, HF.out, hcf]; rfl)
      clear hcf hcs hdb hfs
      go_enter Tryd.func53, Tryd.ntmps53
      go_wp2_with fail
      refine HR.out.mono ?_
      rintro e w1 ⟨rfl, rfl⟩
      rw [hrd]
      go_wp2
      go_ret2
      rw [HE2.out]
      exact ⟨_, rfl, Own.nil _ _ _, HB1.out, HD1.out⟩
    | some cf =>
      rw [hcf] at hlook
      simp only at hlook
      have HE2 := Lib.hid (show readR s nm = (cf.data, 0) by rw [HE.out, if_pos hrd, HF.out, hcf]; rfl)
      obtain ⟨g1, g2, g3, g4, g5, g6, g7⟩ := hfs.mem hcf
      obtain ⟨A, c, hv, hrd1⟩ := g3.open_
      rw [hv] at g1
      have k0 := (cellAt 0 g1).trans (rfl : _ = some (Value.slice A cf.data.length c))
      have HC := Lib.hid (clone_any _ A cf.data.length c cf.data _ hrd1 (Nat.le_refl _) (by omega))
      clear hcf hcs hdb hfs g1 g3 g4 hv hrd1
      generalize cf.data.length = nlen at *
      go_enter Tryd.func53, Tryd.ntmps53
      go_wp2_with fail
      refine HR.out.mono ?_
      rintro e w1 ⟨rfl, rfl⟩
      rw [hrd]
      go_wp2_with fail
      refine HC.out.mono ?_
      rintro e w2 ⟨v, rfl, hown, hb⟩
      have HD2 := Lib.hid (HD1.out.below hb)
      go_wp2
      go_ret2
      rw [HE2.out]
      exact ⟨v, rfl, hown.less (by simp), HB1.out.trans (hb.mono (by simp)), HD2.out⟩
  · have hq : (ready1 nm s.off != 0) = true := by simpa using hrd
    have HE2 := Lib.hid (show readR s nm = ([], ready1 nm s.off) by rw [HE.out, if_neg hrd])
    generalize ready1 nm s.off = xx at *
    go_enter Tryd.func53, Tryd.ntmps53
    go_wp2_with fail
    refine HR.out.mono ?_
    rintro e w1 ⟨rfl, rfl⟩
    go_wp2
    go_ret2
    rw [HE2.out]
    exact ⟨_, rfl, Own.nil _ _ _, HB1.out, HD1.out⟩

end Go.Proofs.YtjdkpcibdjhdoaaDoor
