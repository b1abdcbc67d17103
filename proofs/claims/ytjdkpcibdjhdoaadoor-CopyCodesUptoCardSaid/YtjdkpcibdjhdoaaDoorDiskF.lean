/-
  What write and Append do, by contracts.
-/
import Derived.Test.YtjdkpcibdjhdoaaDoorDiskE
import Derived.BigQuiet
namespace Go.Proofs.YtjdkpcibdjhdoaaDoor
open Go.RowKit Mem FM

theorem Tryd.info_byte : (Tryd.prog.info? 5).map (fun i => (i.zero, i.size, i.bytes)) = some (some (.int .u8 0), 1, 1) := by kernel_rfl

def opErr (fuse : Nat) : Int := if fuse = 1 then 10 else 0
/-- the state behind an operation that leaves these files -/
def St.op (s : St) (fs : List (File Unit)) : St := ⟨s.room, fs, s.ops + 1, s.fuse - 1, s.off || s.fuse == 1⟩
def grow (n l : List UInt8) (fs : List (File Unit)) : List (File Unit) :=
  match find n fs with
  | some f => set n (fun _ => ⟨f.name, f.data ++ l, f.sure, ()⟩) fs
  | none => ins ⟨n, l, 0, ()⟩ fs

/-- the answer x; the disk's state is s' -/
def Did (F : Nat → Prop) (D : Nat) (x : Int) (s' : St) (w : World) (e : Ending) (w' : World) : Prop :=
  e = .returned (.int .i64 x) ∧ ∃ F', DiskAt w' F' D s' ∧ Turned F w w' ∧ Spread F F' w

theorem begin_nat (D : Nat) (room used : Int) (b ops fuse : Nat) (off : Bool) (w : World) (h : DB w D room used b ops fuse off) (ho2 : ops < 1099511627776) (hf2 : fuse ≤ 9223372036854775807) :
    Calls Tryd.prog 91 #[.pointer (some ⟨D, 0, none⟩)] w (fun e w' => e = .returned (.int .i64 (opErr fuse)) ∧ DB w' D room used b ((ops + 1 : Nat) : Int) ((fuse - 1 : Nat) : Int) (off || fuse == 1) ∧ Turned (· = D) w w') := by
  refine (begin_any D room used b ops fuse off w h (by omega) (by omega) (by omega) (by omega)).mono ?_
  rintro e w' ⟨rfl, h1, h2⟩
  have e1 : (if (fuse : Int) = 1 then (10 : Int) else 0) = opErr fuse := by
    unfold opErr
    by_cases h : fuse = 1
    · simp [h]
    · rw [if_neg h, if_neg (by omega)]
  have e2 : ((fuse - 1 : Nat) : Int) = if (fuse : Int) = 0 then 0 else (fuse : Int) - 1 := by split <;> omega
  have e3 : (fuse == 1) = ((fuse : Int) == 1) := by rw [Bool.eq_iff_iff]; simp; omega
  refine ⟨by rw [e1], ?_, h2⟩
  rw [e2, e3]
  exact h1

section
variable {w w1 w' : World} {F F' : Nat → Prop} {b nn D : Nat} {cs : List (File Spot)} {n l : List UInt8} {c : File Spot} {v' : Value} {room used ops fuse : Int} {off : Bool} {bb : Nat}
theorem FilesAt.db (h : FilesAt w F b nn cs) (hd : DB w D room used bb ops fuse off) (ht : Turned (· = D) w w') : FilesAt w' F b nn cs := by
  obtain ⟨m, h1, h2, h3, h4, h5, h6⟩ := h
  refine ⟨m, ownsMap_turned h1 ht (fun e => map_ne_db hd h1 e), h2, h3, h4, h5, fun f hf => ?_⟩
  have hat := h6 f hf
  obtain ⟨g1, g2, g3, g4, g5⟩ := hat
  exact ⟨(ht.block _ (heapLt g1) (fun e => db_ne_file hd (h6 f hf) e)).trans g1, g2, g3.turned ht (fun k hk e => own_ne_db hd g3 (by rw [hk, e])), g4, g5⟩
theorem FilesAt.mem (h : FilesAt w F b nn cs) (hc : find n cs = some c) : FileAt w F c := by
  obtain ⟨m, _, _, _, _, _, h6⟩ := h
  exact h6 c (find_name hc).2
theorem DB.turned (hd : DB w D room used bb ops fuse off) {G : Nat → Prop} (ht : Turned G w w') (hn : ¬ G D) : DB w' D room used bb ops fuse off := (ht.block D hd.lt hn).trans hd

theorem FilesAt.rise (h : FilesAt w F b nn cs) : Rise cs := by
  obtain ⟨m, _, _, _, h4, _⟩ := h
  exact h4
theorem grow_bare (hc : find n cs = some c) (hr : Rise cs) : bare (set n (fun _ => (⟨c.name, c.data ++ l, c.sure, ⟨c.x.g, v'⟩⟩ : File Spot)) cs) = grow n l (bare cs) ∧ FM.used (grow n l (bare cs)) = FM.used (bare cs) + l.length := by
  have h1 : bare (set n (fun _ => (⟨c.name, c.data ++ l, c.sure, ⟨c.x.g, v'⟩⟩ : File Spot)) cs) = grow n l (bare cs) := by
    rw [bare_set n _ (fun _ => ⟨c.name, c.data ++ l, c.sure, ()⟩) (fun _ => rfl)]
    unfold grow
    rw [bare_find, hc]
    rfl
  refine ⟨h1, ?_⟩
  rw [← h1, bare_used, bare_used]
  have := used_set (hh := fun _ => (⟨c.name, c.data ++ l, c.sure, ⟨c.x.g, v'⟩⟩ : File Spot)) hr hc
  simp only [List.length_append] at this
  omega
theorem DiskAt.mk' {s : St} (hd : DB w D room used bb ops fuse off) (hf : FilesAt w F b nn cs) (ht : Turned (· = D) w w') (hd' : DB w' D s.room (FM.used s.files) b s.ops s.fuse s.off) (hF : F D) (hnn : nn ≤ s.ops) (hb : bare cs = s.files)
    (hu : FM.used s.files ≤ s.room) (hr : s.room ≤ 67108864) (hfu : s.fuse ≤ 9223372036854775807) (ho : s.ops < 1099511627776) (hlt : ∀ k, F k → k < w.heap.size) : DiskAt w' F D s :=
  ⟨b, nn, cs, hd', hF, hf.db hd ht, hnn, hb, hu, hr, hfu, ho, fun k hk => Nat.lt_of_lt_of_le (hlt k hk) ht.size⟩

/-- f.data = append(f.data, p...) -/
theorem FilesAt.grow_step (h : FilesAt w F b nn cs) (hc : find n cs = some c) (hown' : Own w1 0 5 v' (c.data ++ l)) (hg : w.grownBy w1 c.x.v.ownBlock) (hat : v'.ownBlock = c.x.v.ownBlock ∨ v'.ownBlock = some w.heap.size)
    (hlen : c.data.length + l.length ≤ 67108864) :
    FilesAt (w1.setCell ⟨c.x.g, 0, none⟩ v') (fun k => F k ∨ v'.ownBlock = some k) b nn (set n (fun _ => ⟨c.name, c.data ++ l, c.sure, ⟨c.x.g, v'⟩⟩) cs) ∧ Turned (fun k => k = c.x.g ∨ c.x.v.ownBlock = some k) w (w1.setCell ⟨c.x.g, 0, none⟩ v') := by
  have hf := h.mem hc
  obtain ⟨g1, g2, g3, g4, g5, g6, g7⟩ := hf
  have hne : c.x.v.ownBlock ≠ some c.x.g := own_ne_file (h.mem hc) g3
  have ht1 : Turned (fun k => k = c.x.g ∨ c.x.v.ownBlock = some k) w w1 := (Turned.refl _ w).grown hg fun k hk => .inl (.inr hk)
  have hh1 : w1.heap[c.x.g]? = some (.cells #[c.x.v, .int .i64 (c.sure : Int)] 126 (0, 0)) := (hg.block _ (heapLt g1) (fun e => hne e.symm)).trans g1
  have ht : Turned (fun k => k = c.x.g ∨ c.x.v.ownBlock = some k) w (w1.setCell ⟨c.x.g, 0, none⟩ v') := ht1.setCell (p := ⟨c.x.g, 0, none⟩) (.inl (.inl rfl)) _
  refine ⟨h.change hc rfl rfl ?_ ht (fun k hk => .inl hk) ?_, ht⟩
  · refine ⟨(heapSet 0 _ hh1).trans rfl, .inl g2, ?_, fun k hk => .inr hk, by simp; omega, by simp; omega, g7⟩
    refine hown'.turned ((Turned.refl (· = c.x.g) w1).setCell (p := ⟨c.x.g, 0, none⟩) (.inl rfl) v') fun k hk e => ?_
    obtain ⟨cur, h3⟩ := own_heap hown' hk
    rw [e, hh1] at h3
    simp at h3
  · intro k hk
    rcases hat with h | h
    · rw [h] at hk; exact .inl hk
    · rw [h] at hk; injection hk with hk; exact .inr (by omega)
end

set_option maxRecDepth 100000 in
set_option maxHeartbeats 1000000 in
theorem write_full (D B : Nat) (F : Nat → Prop) (s : St) (nm : ByteArray) (A : Option Addr) (n c : Nat) (l : List UInt8) (w : World) (h : DiskAt w F D s) (hr : Rd w B A n c l) (hfull : s.room - used s.files < n) :
    Calls Tryd.prog 85 #[.pointer (some ⟨D, 0, none⟩), .string nm, .slice A n c] w (Did F D 11 s w) := by
  have hm := hr.max; have hc := hr.cap
  have HD := Lib.hid h
  obtain ⟨b, nn, cs, hdb, -, -, -, -, hu, hroom, -⟩ := h
  have c0 := hdb.c0; have c1 := hdb.c1
  clear hdb
  generalize used s.files = us at *
  generalize s.room = rm at *
  have hw1 : IntKind.i64.wrap ((rm : Int) - (us : Int)) = (rm : Int) - (us : Int) := IntWalk.i64_in _ (by omega)
  go_enter Tryd.func85, Tryd.ntmps85
  go_wp2_with fail
  go_quiet (fail)
  go_wp2
  go_ret
  exact ⟨rfl, F, HD.out.drewN _, (Turned.refl F w).drewN _, Spread.refl F w⟩

set_option maxRecDepth 100000 in
set_option maxHeartbeats 1000000 in
theorem write_old (D B : Nat) (F : Nat → Prop) (s : St) (nm : ByteArray) (A : Option Addr) (n c : Nat) (l : List UInt8) (w : World) (h : DiskAt w F D s) (hs : nm.size ≤ 9223372036854775807) (hr : Rd w B A n c l) (hfull : ¬ s.room - used s.files < n)
    (f0 : File Unit) (hf : find nm.data.toList s.files = some f0) (hops : s.ops + 1 < 1099511627776) :
    Calls Tryd.prog 85 #[.pointer (some ⟨D, 0, none⟩), .string nm, .slice A n c] w (Did F D (opErr s.fuse) (s.op (grow nm.data.toList l s.files)) w) := by
  obtain ⟨i0, hi, hz0, hz1, hz2⟩ := info_parts Tryd.info_byte
  have HI := Lib.hid hi; have HZ0 := Lib.hid hz0; have HZ1 := Lib.hid hz1; have HZ2 := Lib.hid hz2
  clear hi hz0 hz1 hz2
  have hm := hr.max; have hc := hr.cap
  have HN := Lib.hid hr.len
  have HD := Lib.hid h
  obtain ⟨b, nn, cs, hdb, hFD, hfs, hnn, hcs, hu, hroom, hfuse, hops0, hFlt⟩ := h
  rw [← hcs, bare_find] at hf
  cases hcf : find nm.data.toList cs with
  | none => rw [hcf] at hf; cases hf
  | some cf =>
    have hlook := fun q => (show FilesAt (w.drewN q) F b nn cs from hfs).look nm hs
    rw [hcf] at hlook
    simp only at hlook
    have hfa := hfs.mem hcf
    obtain ⟨g1, g2, g3, g4, g5, g6, g7⟩ := hfa
    have c0 := hdb.c0; have c1 := hdb.c1; have c2 := hdb.c2; have d1 := hdb.free 1
    have k0 : w.cell? ⟨cf.x.g, 0, none⟩ = some cf.x.v := (cellAt 0 g1).trans rfl
    have HDB := Lib.hid hdb
    have HFS := Lib.hid hfs
    have HCF := Lib.hid hcf
    have HCS := Lib.hid hcs
    rw [hcf] at hf
    injection hf with hf
    have hlen : cf.data.length ≤ used s.files := by
      have := used_mem (find_name hcf).2
      rw [← bare_used, hcs] at this
      exact this
    have HF0 := Lib.hid hf
    clear hdb hfs hcf hcs hf
    have HU := Lib.hid (show used s.files = used s.files from rfl)
    generalize hus : used s.files = us at *
    generalize hrm : s.room = rm at *
    have hw1 : IntKind.i64.wrap ((rm : Int) - (us : Int)) = (rm : Int) - (us : Int) := IntWalk.i64_in _ (by omega)
    have HUS := Lib.hid hus
    have HRM := Lib.hid hrm
    clear hus hrm
    go_enter Tryd.func85, Tryd.ntmps85
    go_wp2_with fail
    go_quiet (fail)
    clear hw1
    go_wp2_with (at_builtin; go_must (refine wpList_app _ rfl (.tmp 40) (.tmp 41) _ rfl 0 B _ i0 Tryd.underlying27 HI.out HZ0.out HZ1.out HZ2.out _ cf.data (g3.drewN nq) rfl _ _ _ l (hr.drewN nq) rfl ?_ (Nat.zero_le _) ?_))
    · have := HN.out; omega
    intro v' w1 hown hg0 hat
    obtain ⟨A', cc', hv', -⟩ := hown.open_
    generalize (cf.data ++ l).length = zz at hv'
    have hg : w.grownBy w1 cf.x.v.ownBlock := ⟨hg0.os, hg0.tape, hg0.output, hg0.size, hg0.block⟩
    have hat' : v'.ownBlock = cf.x.v.ownBlock ∨ v'.ownBlock = some w.heap.size := hat
    have hll : cf.data.length + l.length ≤ rm := by have := HN.out; omega
    obtain ⟨hfs2, ht2⟩ := HFS.out.grow_step HCF.out hown hg hat' (by omega)
    have hneD : ¬ (D = cf.x.g ∨ cf.x.v.ownBlock = some D) := by
      rintro (e | e)
      · exact db_ne_file HDB.out (HFS.out.mem HCF.out) e.symm
      · exact own_ne_db HDB.out g3 e
    have hh1 : w1.heap[cf.x.g]? = some (.cells #[cf.x.v, .int .i64 (cf.sure : Int)] 126 (0, 0)) := (hg.block _ (heapLt g1) (fun e => own_ne_file (HFS.out.mem HCF.out) g3 e.symm)).trans g1
    have hdb2 := HDB.out.turned ht2 hneD
    have q0 : w1.cell? ⟨cf.x.g, 0, none⟩ = some cf.x.v := (cellAt 0 hh1).trans rfl
    have q1 := freeAt 0 hh1
    have q2 := hdb2.c1
    have q3 := hdb2.free 1
    have HDB3 := Lib.hid (hdb2.s1 ((us : Int) + (n : Int)))
    have HT2 := Lib.hid ht2
    have HFS2 := Lib.hid hfs2
    have HDB2 := Lib.hid hdb2
    have HAT := Lib.hid hat'
    have HOWN := Lib.hid hown
    clear hg0 hg hat hat' ht2 hfs2 hdb2 hh1 k0 c0 c1 c2 d1 hlook g1 hown
    subst hv'
    go_wp2_with fail
    refine (begin_nat _ _ _ _ _ _ _ _ HDB3.out hops0 hfuse).mono ?_
    rintro e w4 ⟨rfl, hdb4, ht4⟩
    go_wp2
    go_ret
    have hrise := HFS.out.rise
    have hgr := grow_bare (l := l) (v' := Value.slice A' zz cc') HCF.out hrise
    rw [HCS.out] at hgr
    have hus2 : (us : Int) + (n : Int) = ((used (grow nm.data.toList l s.files) : Nat) : Int) := by have := hgr.2; have := HUS.out; have := HN.out; omega
    have ht24 := ((Turned.refl (· = D) _).setCell (p := ⟨D, 1, none⟩) (.inl rfl) (Value.int IntKind.i64 ((us : Int) + (n : Int)))).trans ht4
    rw [hus2, ← HRM.out] at hdb4
    have hF2 : ∀ k, (F k ∨ (Value.slice A' zz cc').ownBlock = some k) → k < (w1.setCell ⟨cf.x.g, 0, none⟩ (Value.slice A' zz cc')).heap.size := by
      rintro k (hk | hk)
      · exact Nat.lt_of_lt_of_le (hFlt k hk) HT2.out.size
      · have := (HOWN.out.lt k hk).2
        simpa [World.setCell] using this
    refine ⟨rfl, (fun k => F k ∨ (Value.slice A' zz cc').ownBlock = some k), DiskAt.mk' HDB2.out HFS2.out ht24 hdb4 (.inl hFD) (show nn ≤ s.ops + 1 by omega) hgr.1 ?_ (show s.room ≤ _ by rw [HRM.out]; exact hroom) (show s.fuse - 1 ≤ _ by omega) hops hF2, ?_, ?_⟩
    · show used (grow nm.data.toList l s.files) ≤ s.room
      have := HRM.out; omega
    · refine (HT2.out.more ?_).trans (ht24.more ?_)
      · rintro k _ (e | e)
        · rw [e]; exact g2
        · exact g4 k e
      · rintro k _ e
        rw [e]; exact hFD
    · rintro k (hk | hk)
      · exact .inl hk
      · rcases HAT.out with h | h
        · rw [h] at hk; exact .inl (g4 k hk)
        · rw [h] at hk; injection hk with hk; exact .inr (by omega)

theorem Mem.Rd.past_map {w w' : World} {B n c : Nat} {A : Option Addr} {l : List UInt8} {b nn : Nat} {m : DataW Unit} (h : Rd w B A n c l) (hB : B ≤ w.heap.size) (ht : Turned (· = b) w w') (hm : w.ownsMap Tryd.prog 9 rdPtr b nn m) : Rd w' B A n c l := by
  refine ⟨h.1, h.2.1, h.2.2.1, fun hn => ?_⟩
  obtain ⟨bb, off, e, hb, hc⟩ := h.2.2.2 hn
  refine ⟨bb, off, e, hb, fun j hj => ?_⟩
  rw [← hc j hj]
  refine ht.cell (p := ⟨bb, off + j, none⟩) (by show bb < _; omega) (fun e2 => ?_)
  have e2 : bb = b := e2
  obtain ⟨es, cl, hh, _⟩ := hm
  have := hc j hj
  rw [e2] at this
  simp [World.cell?, hh] at this
theorem set_ins {n : List UInt8} {c c' : File Spot} {cs : List (File Spot)} (hn : find n cs = none) (h : c.name = n) (h' : c'.name = n) : set n (fun _ => c') (ins c cs) = ins c' cs := by
  induction cs with
  | nil => simp [ins, FM.set, h]
  | cons a r ih =>
    have hna := find_none hn
    have hr : find n r = none := List.find?_eq_none.2 fun g hg => by have := hna g (List.mem_cons_of_mem _ hg); simpa using this
    have hset : ∀ l : List (File Spot), (∀ f ∈ l, f.name ≠ n) → set n (fun _ => c') l = l := fun l hl =>
      (List.map_congr_left fun f hf => if_neg (hl f hf)).trans (List.map_id l)
    unfold ins
    rw [h, h']
    split
    · show (if c.name = n then c' else c) :: set n (fun _ => c') (a :: r) = _
      rw [if_pos h, hset _ hna]
    · show (if a.name = n then c' else a) :: set n (fun _ => c') (ins c r) = _
      rw [if_neg (hna a (by simp)), ih hr]
theorem ownsMap_unique {w : World} {b n n' : Nat} {m m' : DataW Unit} (h : w.ownsMap Tryd.prog 9 rdPtr b n m) (h' : w.ownsMap Tryd.prog 9 rdPtr b n' m') : m = m' := by
  obtain ⟨es, cl, hb, _, _, rfl⟩ := h
  obtain ⟨es', cl', hb', _, _, rfl⟩ := h'
  have := hb.symm.trans hb'
  simp only [Option.some.injEq, Obj.map.injEq] at this
  rw [this.1]

set_option maxRecDepth 100000 in
set_option maxHeartbeats 1000000 in
theorem write_new (D B : Nat) (F : Nat → Prop) (s : St) (nm : ByteArray) (A : Option Addr) (n c : Nat) (l : List UInt8) (w : World) (h : DiskAt w F D s) (hs : nm.size ≤ 32) (hr : Rd w B A n c l) (hB : B ≤ w.heap.size) (hfull : ¬ s.room - used s.files < n)
    (hf : find nm.data.toList s.files = none) (hops : s.ops + 1 < 1099511627776) :
    Calls Tryd.prog 85 #[.pointer (some ⟨D, 0, none⟩), .string nm, .slice A n c] w (Did F D (opErr s.fuse) (s.op (grow nm.data.toList l s.files)) w) := by
  obtain ⟨i0, hi, hz0, hz1, hz2⟩ := info_parts Tryd.info_byte
  have HI := Lib.hid hi; have HZ0 := Lib.hid hz0; have HZ1 := Lib.hid hz1; have HZ2 := Lib.hid hz2
  clear hi hz0 hz1 hz2
  have hm := hr.max; have hc := hr.cap
  have HN := Lib.hid hr.len
  obtain ⟨b, nn, cs, hdb, hFD, hfs, hnn, hcs, hu, hroom, hfuse, hops0, hFlt⟩ := h
  rw [← hcs, bare_find] at hf
  have hcf : find nm.data.toList cs = none := by
    cases hx : find nm.data.toList cs with
    | none => rfl
    | some x => rw [hx] at hf; cases hf
  have hlook := fun q => (show FilesAt (w.drewN q) F b nn cs from hfs).look nm (by omega)
  rw [hcf] at hlook
  simp only at hlook
  have c0 := hdb.c0; have c1 := hdb.c1; have c2 := hdb.c2; have d1 := hdb.free 1
  have HDB := Lib.hid hdb
  have HFS := Lib.hid hfs
  have HCF := Lib.hid hcf
  have HCS := Lib.hid hcs
  obtain ⟨m, hmap, -⟩ := id hfs
  have HM := Lib.hid hmap
  have HK := Lib.hid (keyOf_str nm (by omega))
  clear hdb hfs hcf hcs hf hmap
  generalize hus : used s.files = us at *
  generalize hrm : s.room = rm at *
  have hw1 : IntKind.i64.wrap ((rm : Int) - (us : Int)) = (rm : Int) - (us : Int) := IntWalk.i64_in _ (by omega)
  have HUS := Lib.hid hus
  have HRM := Lib.hid hrm
  clear hus hrm
  go_enter Tryd.func85, Tryd.ntmps85
  go_wp2_with fail
  go_quiet (fail)
  clear hw1
  have c2' : ((w.drewN nq).alloc (.cells #[.slice none 0 0, .int .i64 0] 126)).cell? ⟨D, 2, none⟩ = some (.map (some b)) := (World.cell?_alloc_lt _ _ _ HDB.out.lt).trans c2
  go_wp2_with (at_mapUpdate; go_must (refine wpList_mapUpdate_own _ rfl _ _ _ _ rfl _ _ Tryd.keyed Tryd.underlying74 rdPtr b nn m rfl ((show (w.drewN nq).ownsMap Tryd.prog 9 rdPtr b nn m from HM.out).alloc _) (by simp only [maxLen]; omega) _ _ _ rfl rfl HK.out _ [] rfl ?_))
  intro w2 hm2 hg2
  have ht2 : Turned (· = b) w w2 := (((Turned.refl (· = b) w).drewN nq).alloc _).grown hg2 fun k hk => .inl (by injection hk with hk; exact hk.symm)
  have hblt := HM.out.lt
  have hnew : w2.heap[w.heap.size]? = some (.cells #[.slice none 0 0, .int .i64 0] 126 (0, 0)) :=
    (hg2.block w.heap.size (by simp) (by intro e; injection e with e; omega)).trans (heapNew (w := w.drewN nq) _)
  have hfs2 : FilesAt w2 (fun k => F k ∨ k = w.heap.size) b (nn + 1) (ins ⟨nm.data.toList, [], 0, ⟨w.heap.size, .slice none 0 0⟩⟩ cs) := by
    refine HFS.out.add (c := ⟨nm.data.toList, [], 0, ⟨w.heap.size, .slice none 0 0⟩⟩) HCF.out ⟨hnew, .inr rfl, Own.nil _ _ _, fun k hk => (by cases hk), by simp, by simp, by simpa using hs⟩ ?_ ht2 (fun k hk => .inl hk) ?_
    · intro m' hm'
      rw [ownsMap_unique hm' HM.out]
      exact hm2
    · intro f hf
      obtain ⟨_, _, _, _, _, _, h6⟩ := HFS.out
      exact ⟨fun e => by have := heapLt (h6 f hf).1; simp only at e; omega, fun k hk => by cases hk⟩
  have hr2 : Rd w2 B A n c l := hr.past_map hB ht2 HM.out
  have hdb2 := HDB.out.turned ht2 (fun e => map_ne_db HDB.out HM.out e.symm)
  have hcf2 : find nm.data.toList (ins (⟨nm.data.toList, [], 0, ⟨w.heap.size, .slice none 0 0⟩⟩ : File Spot) cs) = some ⟨nm.data.toList, [], 0, ⟨w.heap.size, .slice none 0 0⟩⟩ := by
    rw [find_ins HCF.out, if_pos rfl]
  have k0 : w2.cell? ⟨w.heap.size, 0, none⟩ = some (.slice none 0 0) := (cellAt 0 hnew).trans rfl
  have HT2 := Lib.hid ht2; have HFS2 := Lib.hid hfs2; have HDB2 := Lib.hid hdb2; have HCF2 := Lib.hid hcf2
  have HNEW := Lib.hid hnew
  clear hg2 ht2 hnew hfs2 hdb2 hcf2 hm2 c0 c1 c2 c2' d1 hlook hr
  go_wp2_with (at_builtin; go_must (refine wpList_app _ rfl (.tmp 40) (.tmp 41) _ rfl 0 B _ i0 Tryd.underlying27 HI.out HZ0.out HZ1.out HZ2.out _ [] (Own.nil _ _ _) rfl _ _ _ l hr2 rfl ?_ (Nat.zero_le _) ?_))
  · have := HN.out; simp; omega
  intro v' w3 hown hg hat
  obtain ⟨A', cc', hv', -⟩ := hown.open_
  generalize l.length = zz at hv'
  have hll : ([] : List UInt8).length + l.length ≤ rm := by have := HN.out; simp; omega
  obtain ⟨hfs3, ht3⟩ := HFS2.out.grow_step HCF2.out (show Own w3 0 _ v' ([] ++ l) from hown) hg hat (show ([] : List UInt8).length + l.length ≤ _ by omega)
  have hneD : ¬ (D = w.heap.size ∨ (Value.slice none 0 0).ownBlock = some D) := by
    rintro (e | e)
    · have := HDB.out.lt; omega
    · cases e
  have hh3 : w3.heap[w.heap.size]? = some (.cells #[.slice none 0 0, .int .i64 0] 126 (0, 0)) := (hg.block _ (heapLt HNEW.out) (by intro e; cases e)).trans HNEW.out
  have hdb3 := HDB2.out.turned ht3 hneD
  have q0 : w3.cell? ⟨w.heap.size, 0, none⟩ = some (.slice none 0 0) := (cellAt 0 hh3).trans rfl
  have q1 := freeAt 0 hh3
  have q2 := hdb3.c1
  have q3 := hdb3.free 1
  have HDB4 := Lib.hid (hdb3.s1 ((us : Int) + (n : Int)))
  have HT3 := Lib.hid ht3
  have HFS3 := Lib.hid hfs3
  have HDB3 := Lib.hid hdb3
  have HAT := Lib.hid hat
  have HOWN := Lib.hid hown
  have HSZ := Lib.hid HT2.out.size
  clear hg hat ht3 hfs3 hdb3 hh3 k0 hown hr2
  subst hv'
  simp only at q0 q1 q2 q3 HDB4
  go_wp2_with fail
  refine (begin_nat _ _ _ _ _ _ _ _ HDB4.out hops0 hfuse).mono ?_
  rintro e w4 ⟨rfl, hdb4, ht4⟩
  go_wp2
  go_ret
  have hgr : bare (set nm.data.toList (fun _ => (⟨nm.data.toList, [] ++ l, 0, ⟨w.heap.size, Value.slice A' zz cc'⟩⟩ : File Spot)) (ins ⟨nm.data.toList, [], 0, ⟨w.heap.size, .slice none 0 0⟩⟩ cs)) = grow nm.data.toList l s.files ∧ used (grow nm.data.toList l s.files) = us + n := by
    have hfn : find nm.data.toList s.files = none := by rw [← HCS.out, bare_find, HCF.out]; rfl
    refine ⟨?_, ?_⟩
    · rw [set_ins HCF.out rfl rfl, bare_ins, HCS.out]
      unfold grow
      rw [hfn]
      rfl
    · unfold grow
      rw [hfn]
      simp only
      rw [used_ins, HUS.out]
      have := HN.out
      simp only; omega
  have hus2 : (us : Int) + (n : Int) = ((used (grow nm.data.toList l s.files) : Nat) : Int) := by have := hgr.2; omega
  have ht24 := ((Turned.refl (· = D) _).setCell (p := ⟨D, 1, none⟩) (.inl rfl) (Value.int IntKind.i64 ((us : Int) + (n : Int)))).trans ht4
  rw [hus2, ← HRM.out] at hdb4
  have hF2 : ∀ k, ((F k ∨ k = w.heap.size) ∨ (Value.slice A' zz cc').ownBlock = some k) → k < (w3.setCell ⟨w.heap.size, 0, none⟩ (Value.slice A' zz cc')).heap.size := by
    rintro k ((hk | hk) | hk)
    · exact Nat.lt_of_lt_of_le (hFlt k hk) (Nat.le_trans HSZ.out HT3.out.size)
    · rw [hk]; exact Nat.lt_of_lt_of_le (heapLt HNEW.out) HT3.out.size
    · have := (HOWN.out.lt k hk).2
      simpa [World.setCell] using this
  refine ⟨rfl, (fun k => (F k ∨ k = w.heap.size) ∨ (Value.slice A' zz cc').ownBlock = some k), DiskAt.mk' HDB3.out HFS3.out ht24 hdb4 (.inl (.inl hFD)) (show nn + 1 ≤ s.ops + 1 by omega) hgr.1 ?_ (show s.room ≤ _ by rw [HRM.out]; exact hroom) (show s.fuse - 1 ≤ _ by omega) hops hF2, ?_, ?_⟩
  · show used (grow nm.data.toList l s.files) ≤ s.room
    have := HRM.out; have := hgr.2; omega
  · have hb : F b := by obtain ⟨_, _, hb, _⟩ := HFS.out; exact hb
    have t1 : Turned F w w2 := HT2.out.more fun k _ e => by rw [e]; exact hb
    have t2 := t1.trans' (F' := fun k => k = w.heap.size ∨ (Value.slice none 0 0).ownBlock = some k) (by
      rintro k (e | e)
      · exact .inr (by omega)
      · cases e) HT3.out
    exact t2.trans (ht24.more fun k _ e => by rw [e]; exact hFD)
  · rintro k ((hk | hk) | hk)
    · exact .inl hk
    · exact .inr (by omega)
    · rcases HAT.out with h | h
      · rw [h] at hk; cases hk
      · rw [h] at hk; injection hk with hk; exact .inr (by have := HSZ.out; omega)
end Go.Proofs.YtjdkpcibdjhdoaaDoor
