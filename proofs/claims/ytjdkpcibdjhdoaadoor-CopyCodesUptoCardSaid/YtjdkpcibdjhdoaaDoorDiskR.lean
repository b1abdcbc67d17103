/-
  What Rename does, by contract.
-/
import Derived.Test.YtjdkpcibdjhdoaaDoorDiskQ
namespace Go.Proofs.YtjdkpcibdjhdoaaDoor
open Go.RowKit Mem FM

def renamed (s : St) (nm to : ByteArray) : Int × St :=
  if ready2 nm to s.off = 0 then
    match find nm.data.toList s.files with
    | none => (8, s)
    | some f => if f.sure < f.data.length then (12, s) else withRen s nm to
  else (ready2 nm to s.off, s)

theorem ready2_ok {nm to : ByteArray} {off : Bool} (h : ready2 nm to off = 0) : nameOk nm = true ∧ nameOk to = true ∧ nm.data.toList ≠ to.data.toList := by
  unfold ready2 at h
  split at h
  · split at h
    · split at h
      · cases h
      · exact ⟨by assumption, by assumption, by assumption⟩
    · cases h
  · cases h

theorem sz (w : World) (o : Obj) : (w.alloc o).heap.size = w.heap.size + 1 := by simp
def W4 (w : World) (D : Nat) (nm to : ByteArray) : World :=
  (((w.alloc (.cells #[.pointer (some ⟨D, 0, none⟩)] 39)).alloc (.cells #[.string nm] 9)).alloc (.cells #[.string to] 9)).alloc (.cells #[.string nm, .string to] 9)
theorem W4.cells (w : World) (D : Nat) (nm to : ByteArray) : (W4 w D nm to).cell? ⟨w.heap.size, 0, none⟩ = some (.pointer (some ⟨D, 0, none⟩)) ∧ (W4 w D nm to).cell? ⟨w.heap.size + 1, 0, none⟩ = some (.string nm) ∧ (W4 w D nm to).cell? ⟨w.heap.size + 2, 0, none⟩ = some (.string to) ∧
    (W4 w D nm to).cell? ⟨w.heap.size + 3, 0, none⟩ = some (.string nm) ∧ (W4 w D nm to).cell? ⟨w.heap.size + 3, 1, none⟩ = some (.string to) := by
  have z1 := heapOld (o := .cells #[.string nm, .string to] 9 (0, 0)) (heapOld (o := .cells #[.string to] 9 (0, 0)) (heapOld (o := .cells #[.string nm] 9 (0, 0)) (heapNew (w := w) (.cells #[.pointer (some ⟨D, 0, none⟩)] 39 (0, 0)))))
  have z2 := heapOld (o := .cells #[.string nm, .string to] 9 (0, 0)) (heapOld (o := .cells #[.string to] 9 (0, 0)) (heapNew (w := w.alloc (.cells #[.pointer (some ⟨D, 0, none⟩)] 39)) (.cells #[.string nm] 9 (0, 0))))
  have z3 := heapOld (o := .cells #[.string nm, .string to] 9 (0, 0)) (heapNew (w := (w.alloc (.cells #[.pointer (some ⟨D, 0, none⟩)] 39)).alloc (.cells #[.string nm] 9)) (.cells #[.string to] 9 (0, 0)))
  have z4 := heapNew (w := ((w.alloc (.cells #[.pointer (some ⟨D, 0, none⟩)] 39)).alloc (.cells #[.string nm] 9)).alloc (.cells #[.string to] 9)) (.cells #[.string nm, .string to] 9 (0, 0))
  simp only [sz] at z2 z3 z4
  exact ⟨(cellAt 0 z1).trans rfl, (cellAt 0 z2).trans rfl, (cellAt 0 z3).trans rfl, (cellAt 0 z4).trans rfl, (cellAt 1 z4).trans rfl⟩

set_option maxRecDepth 100000 in
set_option maxHeartbeats 1000000 in
theorem rename_any (D : Nat) (F : Nat → Prop) (s : St) (nm to : ByteArray) (w : World) (h : DiskAt w F D s) (hs : nm.size ≤ 9223372036854775807) (hs2 : to.size ≤ 9223372036854775807) (hops : s.ops + 1 < 1099511627776) :
    Calls Tryd.prog 74 #[.pointer (some ⟨D, 0, none⟩), .string nm, .string to] w (Did F D (renamed s nm to).1 (renamed s nm to).2 w) := by
  have h1 : DiskAt (W4 w D nm to) F D s := (((h.alloc _).alloc _).alloc _).alloc _
  obtain ⟨z1, z2, z3, z4, z5⟩ := W4.cells w D nm to
  have HR := Lib.hid (ready_two D (w.heap.size + 3) nm to s.off _ hs hs2 h1.off_ z4 z5)
  have HT := Lib.hid (show Turned F w (W4 w D nm to) from ((((Turned.refl F w).alloc _).alloc _).alloc _).alloc _)
  have HFT := Lib.hid (fun k (hF : F k) => h.foot hF)
  have HD1 := Lib.hid h1
  have HZ1 := Lib.hid z1; have HZ2 := Lib.hid z2; have HZ3 := Lib.hid z3
  clear h1 h z4 z5
  unfold W4 at z1 z2 z3
  by_cases hrd : ready2 nm to s.off = 0
  · obtain ⟨r1, r2, r3⟩ := ready2_ok hrd
    have hs32 := nameOk_size r1; have ht32 := nameOk_size r2
    have HW := Lib.hid (fun q => with_rename_any D F s nm to w.heap.size (w.heap.size + 2) (w.heap.size + 1) ((W4 w D nm to).drewN q) HD1.out hs32 ht32 r3 HZ1.out HZ3.out HZ2.out (fun hF => by have := HFT.out _ hF; omega) (fun hF => by have := HFT.out _ hF; omega) (fun hF => by have := HFT.out _ hF; omega) hops)
    obtain ⟨b, nn, cs, hdb, hFD, hfs, hnn, hcs, -⟩ := HD1.out
    have hlook := fun q => (show FilesAt ((W4 w D nm to).drewN q) F b nn cs from hfs).look nm hs
    have c2 := hdb.c2
    have HF := Lib.hid (show find nm.data.toList s.files = (find nm.data.toList cs).map File.bare by rw [← hcs, bare_find])
    clear r1 r2 r3
    unfold W4 at c2 hlook HR HW
    cases hcf : find nm.data.toList cs with
    | none =>
      simp only [hcf] at hlook
      have HE2 := Lib.hid (show renamed s nm to = (8, s) by unfold renamed; rw [if_pos hrd, HF.out, hcf]; rfl)
      have HW2 := Lib.hid (show withRen s nm to = (8, s) by unfold withRen; rw [HF.out, hcf]; rfl)
      clear hcf hcs hdb hfs
      go_enter Tryd.func74, Tryd.ntmps74
      go_wp2_with fail
      refine HR.out.mono ?_
      rintro e w1 ⟨rfl, rfl⟩
      rw [hrd]
      go_wp2_with fail
      go_quiet (fail)
      go_wp2_with fail
      go_quiet (fail)
      go_wp2_with fail
      refine (HW.out _).mono ?_
      rintro e w2 hdid
      rw [HW2.out] at hdid
      obtain ⟨rfl, F', hd', ht', hs'⟩ := hdid
      go_wp2
      go_ret
      rw [HE2.out]
      exact Did.from_ HT.out (w1 := W4 w D nm to) ⟨rfl, F', hd', Turned.undrewN ht', hs'⟩
    | some cf =>
      simp only [hcf] at hlook
      obtain ⟨g1, g2, g3, g4, g5, g6, g7⟩ := hfs.mem hcf
      obtain ⟨A, c, hv, hrd1⟩ := g3.open_
      rw [hv] at g1
      have k0 := (cellAt 0 g1).trans (rfl : _ = some (Value.slice A cf.data.length c))
      have k1 := (cellAt 1 g1).trans (rfl : _ = some (Value.int .i64 (cf.sure : Int)))
      unfold W4 at k0 k1
      have HFB := Lib.hid (show find nm.data.toList s.files = some cf.bare by rw [HF.out, hcf]; rfl)
      clear hcf hcs hdb hfs g1 g3 g4 hv hrd1
      by_cases hlt : cf.sure < cf.data.length
      · have HE2 := Lib.hid (show renamed s nm to = (12, s) by unfold renamed; rw [if_pos hrd, HFB.out]; simp only; rw [if_pos (show cf.bare.sure < cf.bare.data.length from hlt)])
        generalize cf.data.length = dl at *
        have hd : decide ((cf.sure : Int) < (dl : Int)) = true := by simp; omega
        go_enter Tryd.func74, Tryd.ntmps74
        go_wp2_with fail
        refine HR.out.mono ?_
        rintro e w1 ⟨rfl, rfl⟩
        rw [hrd]
        go_wp2_with fail
        go_quiet (fail)
        go_wp2_with fail
        go_quiet (fail)
        go_wp2
        go_ret
        rw [HE2.out]
        exact ⟨rfl, F, HD1.out, (HT.out.drewN _).drewN _, Spread.refl F w⟩
      · have HE2 := Lib.hid (show renamed s nm to = withRen s nm to by unfold renamed; rw [if_pos hrd, HFB.out]; simp only; rw [if_neg (show ¬ cf.bare.sure < cf.bare.data.length from hlt)])
        generalize cf.data.length = dl at *
        have hd : decide ((cf.sure : Int) < (dl : Int)) = false := by simp; omega
        generalize withRen s nm to = wr2 at *
        obtain ⟨xx, s'⟩ := wr2
        go_enter Tryd.func74, Tryd.ntmps74
        go_wp2_with fail
        refine HR.out.mono ?_
        rintro e w1 ⟨rfl, rfl⟩
        rw [hrd]
        go_wp2_with fail
        go_quiet (fail)
        go_wp2_with fail
        go_quiet (fail)
        go_wp2_with fail
        refine (HW.out _).mono ?_
        rintro e w2 hdid
        obtain ⟨rfl, F', hd', ht', hs'⟩ := hdid
        go_wp2
        go_ret
        rw [HE2.out]
        exact Did.from_ HT.out (w1 := W4 w D nm to) ⟨rfl, F', hd', Turned.undrewN ht', hs'⟩
  · have hq : (ready2 nm to s.off != 0) = true := by simpa using hrd
    have HE2 := Lib.hid (show renamed s nm to = (ready2 nm to s.off, s) by unfold renamed; rw [if_neg hrd])
    generalize ready2 nm to s.off = xx at *
    unfold W4 at HR
    go_enter Tryd.func74, Tryd.ntmps74
    go_wp2_with fail
    refine HR.out.mono ?_
    rintro e w1 ⟨rfl, rfl⟩
    go_wp2
    go_ret
    rw [HE2.out]
    exact ⟨rfl, F, HD1.out, HT.out, Spread.refl F w⟩
end Go.Proofs.YtjdkpcibdjhdoaaDoor
