/-
  What Remove does, by contract.
-/
import Derived.Test.YtjdkpcibdjhdoaaDoorDiskM
namespace Go.Proofs.YtjdkpcibdjhdoaaDoor
open Go.RowKit Mem FM

set_option maxRecDepth 100000 in
set_option maxHeartbeats 400000 in
theorem remove1_any (D : Nat) (F : Nat → Prop) (s : St) (nm : ByteArray) (fv : Value) (cd cn : Nat) (w : World) (h : DiskAt w F D s) (hs : nm.size ≤ 9223372036854775807) (h1 : w.cell? ⟨cd, 0, none⟩ = some (.pointer (some ⟨D, 0, none⟩))) (h2 : w.cell? ⟨cn, 0, none⟩ = some (.string nm)) :
    Calls Tryd.prog 81 #[fv, .pointer (some ⟨cd, 0, none⟩), .pointer (some ⟨cn, 0, none⟩)] w (Dropped F D s nm.data.toList w) := by
  have HD := Lib.hid (drop_any D F s nm w h hs)
  go_enter Tryd.func81, Tryd.ntmps81
  go_wp2_with fail
  refine HD.out.mono ?_
  rintro e w1 ⟨rfl, hd, ht⟩
  go_wp2
  refine bodyPost_end (results_none rfl _ _ _) rfl ?_
  exact ⟨rfl, hd, ht⟩

def withDel (s : St) (nm : ByteArray) : Int × St :=
  match find nm.data.toList s.files with
  | none => (8, s)
  | some _ => if s.fuse = 1 then (10, s.op s.files) else (0, s.op (del nm.data.toList s.files))
def removed (s : St) (nm : ByteArray) : Int × St := if ready1 nm s.off = 0 then withDel s nm else (ready1 nm s.off, s)

set_option maxRecDepth 100000 in
set_option maxHeartbeats 400000 in
theorem with_remove (D : Nat) (F : Nat → Prop) (s : St) (nm : ByteArray) (cd cn : Nat) (w : World) (h : DiskAt w F D s) (hs : nm.size ≤ 9223372036854775807) (h1 : w.cell? ⟨cd, 0, none⟩ = some (.pointer (some ⟨D, 0, none⟩))) (h2 : w.cell? ⟨cn, 0, none⟩ = some (.string nm)) (hcd : ¬ F cd) (hcn : ¬ F cn)
    (f0 : File Unit) (hf : find nm.data.toList s.files = some f0) (hfu : s.fuse ≠ 1) (hops : s.ops + 1 < 1099511627776) :
    Calls Tryd.prog 76 #[.pointer (some ⟨D, 0, none⟩), .string nm, .func (.func 81) #[] #[.pointer (some ⟨cd, 0, none⟩), .pointer (some ⟨cn, 0, none⟩)]] w
      (Did F D 0 (s.op (del nm.data.toList s.files)) w) := by
  obtain ⟨b, nn, cs, hdb, hFD, hfs, hnn, hcs, hu, hroom, hfuse, hops0, hFlt⟩ := h
  rw [← hcs, bare_find] at hf
  cases hcf : find nm.data.toList cs with
  | none => rw [hcf] at hf; cases hf
  | some cf =>
    have hlook := hfs.look nm hs
    rw [hcf] at hlook
    simp only at hlook
    have c2 := hdb.c2
    have HB := Lib.hid (begin_nat _ _ _ _ _ _ _ _ hdb hops0 hfuse)
    have HDB := Lib.hid hdb; have HFS := Lib.hid hfs; have HCS := Lib.hid hcs
    have HE := Lib.hid (show opErr s.fuse = 0 by unfold opErr; rw [if_neg hfu])
    have H1 := Lib.hid h1; have H2 := Lib.hid h2
    clear hdb hfs hcs hcf hf h1 h2
    go_enter Tryd.func76, Tryd.ntmps76
    go_wp2_with fail
    refine HB.out.mono ?_
    rintro e w1 ⟨rfl, hdb1, ht1⟩
    rw [HE.out]
    have hd1 : DiskAt w1 F D (s.op s.files) := DiskAt.mk' HDB.out HFS.out ht1 hdb1 hFD (show nn ≤ s.ops + 1 by omega) HCS.out hu hroom (show s.fuse - 1 ≤ _ by omega) hops hFlt
    have e1 : w1.cell? ⟨cd, 0, none⟩ = some (.pointer (some ⟨D, 0, none⟩)) := (ht1.cell (p := ⟨cd, 0, none⟩) (World.block_lt_of_cell? w _ H1.out) (fun e => hcd (by have e : cd = D := e; rw [e]; exact hFD))).trans H1.out
    have e2 : w1.cell? ⟨cn, 0, none⟩ = some (.string nm) := (ht1.cell (p := ⟨cn, 0, none⟩) (World.block_lt_of_cell? w _ H2.out) (fun e => hcn (by have e : cn = D := e; rw [e]; exact hFD))).trans H2.out
    have HR := Lib.hid (remove1_any D F (s.op s.files) nm (.pointer (some ⟨cf.x.g, 0, none⟩)) cd cn w1 hd1 hs e1 e2)
    have HT1 := Lib.hid ht1
    clear hdb1 ht1 hd1 e1 e2 hlook c2
    go_wp2_with fail
    refine HR.out.mono ?_
    rintro e w2 ⟨rfl, hd2, ht2⟩
    have HD2 := Lib.hid hd2; have HT2 := Lib.hid ht2
    clear hd2 ht2
    go_wp2
    go_ret
    exact ⟨rfl, F, HD2.out, (HT1.out.more fun k _ e => by rw [e]; exact hFD).trans HT2.out, Spread.refl F w⟩

theorem with_remove_any (D : Nat) (F : Nat → Prop) (s : St) (nm : ByteArray) (cd cn : Nat) (w : World) (h : DiskAt w F D s) (hs : nm.size ≤ 9223372036854775807) (h1 : w.cell? ⟨cd, 0, none⟩ = some (.pointer (some ⟨D, 0, none⟩))) (h2 : w.cell? ⟨cn, 0, none⟩ = some (.string nm)) (hcd : ¬ F cd) (hcn : ¬ F cn) (hops : s.ops + 1 < 1099511627776) :
    Calls Tryd.prog 76 #[.pointer (some ⟨D, 0, none⟩), .string nm, .func (.func 81) #[] #[.pointer (some ⟨cd, 0, none⟩), .pointer (some ⟨cn, 0, none⟩)]] w
      (Did F D (withDel s nm).1 (withDel s nm).2 w) := by
  unfold withDel
  cases hx : find nm.data.toList s.files with
  | none =>
    refine (with_none D F s nm _ w h hs hx).mono ?_
    rintro e w' ⟨rfl, rfl⟩
    exact ⟨rfl, F, h, Turned.refl _ _, Spread.refl _ _⟩
  | some f =>
    simp only
    by_cases hf : s.fuse = 1
    · rw [if_pos hf]; exact with_off D F s nm _ w h hs f hx hf hops
    · rw [if_neg hf]; exact with_remove D F s nm cd cn w h hs h1 h2 hcd hcn f hx hf hops

set_option maxRecDepth 100000 in
set_option maxHeartbeats 400000 in
theorem remove_any (D : Nat) (F : Nat → Prop) (s : St) (nm : ByteArray) (w : World) (h : DiskAt w F D s) (hs : nm.size ≤ 9223372036854775807) (hops : s.ops + 1 < 1099511627776) :
    Calls Tryd.prog 71 #[.pointer (some ⟨D, 0, none⟩), .string nm] w (Did F D (removed s nm).1 (removed s nm).2 w) := by
  have h1 := ((h.alloc (.cells #[.pointer (some ⟨D, 0, none⟩)] 39)).alloc (.cells #[.string nm] 9)).alloc (.cells #[.string nm] 9)
  have hz1 := heapOld (o := .cells #[.string nm] 9 (0, 0)) (heapOld (o := .cells #[.string nm] 9 (0, 0)) (heapNew (w := w) (.cells #[.pointer (some ⟨D, 0, none⟩)] 39 (0, 0))))
  have hz2 := heapOld (o := .cells #[.string nm] 9 (0, 0)) (heapNew (w := w.alloc (.cells #[.pointer (some ⟨D, 0, none⟩)] 39)) (.cells #[.string nm] 9 (0, 0)))
  have hz3 := heapNew (w := (w.alloc (.cells #[.pointer (some ⟨D, 0, none⟩)] 39)).alloc (.cells #[.string nm] 9)) (.cells #[.string nm] 9 (0, 0))
  rw [show (w.alloc (.cells #[.pointer (some ⟨D, 0, none⟩)] 39)).heap.size = w.heap.size + 1 by simp] at hz2
  rw [show ((w.alloc (.cells #[.pointer (some ⟨D, 0, none⟩)] 39)).alloc (.cells #[.string nm] 9)).heap.size = w.heap.size + 1 + 1 by simp] at hz3
  have HR := Lib.hid (ready_one D (w.heap.size + 1 + 1) nm s.off _ hs h1.off_ ((cellAt 0 hz3).trans rfl))
  have HT := Lib.hid ((((Turned.refl F w).alloc (.cells #[.pointer (some ⟨D, 0, none⟩)] 39)).alloc (.cells #[.string nm] 9)).alloc (.cells #[.string nm] 9))
  have HE := Lib.hid (show removed s nm = if ready1 nm s.off = 0 then withDel s nm else (ready1 nm s.off, s) from rfl)
  have HD1 := Lib.hid h1
  have HW := Lib.hid (with_remove_any D F s nm w.heap.size (w.heap.size + 1) _ h1 hs ((cellAt 0 hz1).trans rfl) ((cellAt 0 hz2).trans rfl) (fun hF => by have := h.foot hF; omega) (fun hF => by have := h.foot hF; omega) hops)
  have k1 := (cellAt 0 hz1).trans (rfl : _ = some (Value.pointer (some ⟨D, 0, none⟩)))
  have k2 := (cellAt 0 hz2).trans (rfl : _ = some (Value.string nm))
  clear h1 hz1 hz2 hz3 h
  by_cases hrd : ready1 nm s.off = 0
  · go_enter Tryd.func71, Tryd.ntmps71
    go_wp2_with fail
    refine HR.out.mono ?_
    rintro e w1 ⟨rfl, rfl⟩
    rw [hrd]
    go_wp2_with fail
    refine HW.out.mono ?_
    rintro e w2 hdid
    have HDID := Lib.hid hdid
    obtain ⟨rfl, -⟩ := hdid
    clear HR HW
    have HE2 := Lib.hid (show removed s nm = withDel s nm by rw [HE.out, if_pos hrd])
    generalize hxx : (withDel s nm).1 = xx at *
    have HXX := Lib.hid hxx
    clear hxx
    go_wp2
    go_ret
    rw [HE2.out, HXX.out]
    exact HDID.out.from_ HT.out
  · have hq : (ready1 nm s.off != 0) = true := by simpa using hrd
    go_enter Tryd.func71, Tryd.ntmps71
    go_wp2_with fail
    refine HR.out.mono ?_
    rintro e w1 ⟨rfl, rfl⟩
    have HE2 := Lib.hid (show removed s nm = (ready1 nm s.off, s) by rw [HE.out, if_neg hrd])
    generalize ready1 nm s.off = xx at *
    go_wp2
    go_ret
    rw [HE2.out]
    exact ⟨rfl, F, HD1.out, HT.out, Spread.refl F w⟩
end Go.Proofs.YtjdkpcibdjhdoaaDoor
