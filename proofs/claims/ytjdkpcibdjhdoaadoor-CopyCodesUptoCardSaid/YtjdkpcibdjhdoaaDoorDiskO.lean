/-
  What Rename does, by contract: drop at the files themselves, ready at two names, the closure.
-/
import Derived.Test.YtjdkpcibdjhdoaaDoorDiskN
import Derived.StillTailTactics
namespace Go.Proofs.YtjdkpcibdjhdoaaDoor
open Go.RowKit Mem FM

set_option maxRecDepth 100000 in
set_option maxHeartbeats 1000000 in
theorem drop_conc (D b nn : Nat) (F : Nat → Prop) (cs : List (File Spot)) (room ops fuse : Int) (off : Bool) (nm : ByteArray) (w : World) (hdb : DB w D room (used cs : Nat) b ops fuse off) (hfs : FilesAt w F b nn cs) (hFD : F D) (hu : used cs ≤ 67108864) (hs : nm.size ≤ 9223372036854775807) :
    Calls Tryd.prog 82 #[.pointer (some ⟨D, 0, none⟩), .string nm] w (fun e w' => e = .returned (.tuple #[]) ∧ DB w' D room (used (del nm.data.toList cs) : Nat) b ops fuse off ∧ FilesAt w' F b nn (del nm.data.toList cs) ∧ Turned F w w') := by
  have hlook := hfs.look nm hs
  have c1 := hdb.c1; have c2 := hdb.c2; have f1 := hdb.free 1
  cases hcf : find nm.data.toList cs with
  | none =>
    rw [hcf] at hlook
    simp only at hlook
    have HS := Lib.hid (del_none hcf)
    have HDB := Lib.hid hdb; have HFS := Lib.hid hfs
    clear hcf hdb hfs
    go_enter Tryd.func82, Tryd.ntmps82
    go_wp2
    refine bodyPost_end (results_none rfl _ _ _) rfl ?_
    rw [HS.out]
    exact ⟨rfl, HDB.out, HFS.out, Turned.refl _ _⟩
  | some cf =>
    rw [hcf] at hlook
    simp only at hlook
    obtain ⟨g1, g2, g3, g4, g5, g6, g7⟩ := hfs.mem hcf
    obtain ⟨A, c, hv, hrd1⟩ := g3.open_
    rw [hv] at g1
    have k0 : w.cell? ⟨cf.x.g, 0, none⟩ = some (Value.slice A cf.data.length c) := (cellAt 0 g1).trans rfl
    have hle : cf.data.length ≤ used cs := used_mem (find_name hcf).2
    have HUD := Lib.hid (used_del hfs.rise hcf)
    have HDB := Lib.hid hdb; have HFS := Lib.hid hfs; have HCF := Lib.hid hcf
    have HK := Lib.hid (keyOf_str nm hs)
    obtain ⟨m, hmap, -⟩ := id hfs
    have HM := Lib.hid hmap
    clear hdb hfs hcf hmap g1 g3 g4 hv hrd1
    generalize hus : used cs = us at *
    have HUS := Lib.hid hus
    clear hus
    generalize hdl : cf.data.length = dl at *
    clear hdl
    have hw1 : IntKind.i64.wrap ((us : Int) - (dl : Int)) = ((us - dl : Nat) : Int) := by rw [IntWalk.i64_in _ (by omega)]; omega
    go_enter Tryd.func82, Tryd.ntmps82
    go_wp2_with fail
    go_region
    have hdb1 : DB (w.setCell ⟨D, 1, none⟩ (.int .i64 ((us - dl : Nat) : Int))).drew D room ((us - dl : Nat) : Int) b ops fuse off := HDB.out.s1 _
    have hbD : b ≠ D := map_ne_db HDB.out HM.out
    have hm1 : (w.setCell ⟨D, 1, none⟩ (.int .i64 ((us - dl : Nat) : Int))).drew.ownsMap Tryd.prog 9 rdPtr b nn m := HM.out.setCell (a := ⟨D, 1, none⟩) hbD _
    have ht1 : Turned (· = D) w (w.setCell ⟨D, 1, none⟩ (.int .i64 ((us - dl : Nat) : Int))).drew := ((Turned.refl (· = D) w).setCell (p := ⟨D, 1, none⟩) (.inl rfl) _).drew
    have hfs1 := HFS.out.db HDB.out ht1
    generalize (w.setCell ⟨D, 1, none⟩ (.int .i64 ((us - dl : Nat) : Int))).drew = w1 at *
    have d2 := hdb1.c2
    have HDB1 := Lib.hid hdb1; have HM1 := Lib.hid hm1; have HT1 := Lib.hid ht1; have HFS1 := Lib.hid hfs1
    clear hdb1 hm1 ht1 hfs1 c1 c2 f1 k0 hlook hw1
    go_wp2_with (at_delete; go_must (refine wpList_delete_own _ rfl _ _ _ _ rfl _ Tryd.keyed Tryd.underlying74 rdPtr b nn m rfl HM1.out _ _ rfl HK.out ?_))
    intro w2 hm2 hturn2
    have ht2 : Turned (· = b) w1 w2 := (Turned.refl (· = b) w1).grown hturn2.grown fun k hk => .inl (by injection hk with hk; exact hk.symm)
    have hfs2 : FilesAt w2 F b nn (del nm.data.toList cs) := HFS1.out.drop (fun m' hm' => by rw [ownsMap_unique hm' HM1.out]; exact hm2) ht2
    have hdb2 := HDB1.out.turned ht2 (fun e => hbD e.symm)
    have HFS2 := Lib.hid hfs2; have HDB2 := Lib.hid hdb2; have HT2 := Lib.hid ht2
    clear hm2 hturn2 ht2 hfs2 hdb2
    go_wp2
    refine bodyPost_end (results_none rfl _ _ _) rfl ?_
    have hbF : F b := by obtain ⟨_, _, hb, _⟩ := HFS.out; exact hb
    have hud : used (del nm.data.toList cs) = us - dl := by have := HUD.out; omega
    exact ⟨rfl, by rw [hud]; exact HDB2.out, HFS2.out, (HT1.out.more fun k _ e => by rw [e]; exact hFD).trans (HT2.out.more fun k _ e => by rw [e]; exact hbF)⟩

def ready2 (s t : ByteArray) (off : Bool) : Int := if nameOk s = true then (if nameOk t = true then (if s.data.toList = t.data.toList then 1 else if off then 10 else 0) else 1) else 1

theorem bytes_inj {s t : ByteArray} (h : s.data.toList = t.data.toList) : s = t := by
  obtain ⟨⟨a⟩⟩ := s
  obtain ⟨⟨b⟩⟩ := t
  simpa using h

set_option maxRecDepth 100000 in
set_option maxHeartbeats 400000 in
theorem ready_two (D B : Nat) (s t : ByteArray) (off : Bool) (w : World) (hs : s.size ≤ 9223372036854775807) (ht : t.size ≤ 9223372036854775807) (hoff : w.cell? ⟨D, 5, none⟩ = some (.bool off)) (hn : w.cell? ⟨B, 0, none⟩ = some (.string s)) (hn2 : w.cell? ⟨B, 1, none⟩ = some (.string t)) :
    Calls Tryd.prog 69 #[.pointer (some ⟨D, 0, none⟩), .slice (some ⟨B, 0, none⟩) 2 2] w (Errs (ready2 s t off) w) := by
  have HC := Lib.hid (contains_any (some ⟨B, 0, none⟩) 0 2 (B + 1) [] s w ⟨rfl, by omega, by simp [maxLen], fun h => absurd h (by omega)⟩)
  have hrd1 : RdV w (B + 1) (some ⟨B, 0, none⟩) 1 2 ([s].map Value.string) := by
    refine ⟨rfl, by omega, by simp [maxLen], fun _ => ⟨B, 0, rfl, by omega, fun j hj => ?_⟩⟩
    obtain rfl : j = 0 := by omega
    exact hn
  have HC2 := Lib.hid (contains_any (some ⟨B, 0, none⟩) 1 2 (B + 1) [s] t w hrd1)
  clear hrd1
  have HNA := Lib.hid (name_any s w hs)
  have HNB := Lib.hid (name_any t w ht)
  have HR := Lib.hid (show ready2 s t off = if nameOk s = true then (if nameOk t = true then (if s.data.toList = t.data.toList then 1 else if off then 10 else 0) else 1) else 1 from rfl)
  cases hok : nameOk s
  · go_enter Tryd.func69, Tryd.ntmps69
    go_wp2
    go_loop [11] (fun p => p = .int .i64 0) (fun p => 1 - (intOf p).toNat)
    case atStart => rfl
    case round =>
      subst hrel
      go_wp2_with fail
      refine HNA.out.mono ?_
      rintro e w1 ⟨rfl, rfl⟩
      rw [hok]
      go_wp2
      go_ret
      exact ⟨by rw [HR.out, hok]; rfl, rfl⟩
  · go_enter Tryd.func69, Tryd.ntmps69
    go_wp2
    go_loop [11] (fun p => p = .int .i64 0 ∨ p = .int .i64 1 ∨ (p = .int .i64 2 ∧ Hid (nameOk t = true ∧ s.data.toList ≠ t.data.toList))) (fun p => 2 - (intOf p).toNat)
    case atStart => exact .inl rfl
    case round =>
      rcases hrel with rfl | rfl | ⟨rfl, HOK⟩
      · go_wp2_with fail
        refine HNA.out.mono ?_
        rintro e w1 ⟨rfl, rfl⟩
        rw [hok]
        go_wp2_with fail
        refine HC.out.mono ?_
        rintro e w1 ⟨r, rfl, rfl, hr⟩
        have hr' : r = false := by
          cases r
          · rfl
          · exact absurd (hr.1 rfl) (by simp)
        clear hr
        subst hr'
        go_wp2
        go_round
        case rel => exact .inr (.inl rfl)
        case measure => simp [intOf]
      · cases hok2 : nameOk t
        · go_wp2_with fail
          refine HNB.out.mono ?_
          rintro e w1 ⟨rfl, rfl⟩
          rw [hok2]
          go_wp2
          go_ret
          exact ⟨by rw [HR.out, hok, hok2]; rfl, rfl⟩
        · go_wp2_with fail
          refine HNB.out.mono ?_
          rintro e w1 ⟨rfl, rfl⟩
          rw [hok2]
          have HOK2 := Lib.hid hok2
          clear hok2
          go_wp2_with fail
          refine HC2.out.mono ?_
          rintro e w1 ⟨r, rfl, rfl, hr⟩
          cases r
          · have HNE := Lib.hid (show s.data.toList ≠ t.data.toList from fun e => by have e := bytes_inj e; have := hr.2 (by rw [e]; simp); cases this)
            clear hr
            go_wp2
            go_round
            case rel => exact .inr (.inr ⟨rfl, Lib.hid ⟨trivial, HNE.out⟩⟩)
            case measure => simp [intOf]
          · have HEQ := Lib.hid (show s.data.toList = t.data.toList by have := hr.1 rfl; simp at this; rw [this])
            clear hr
            go_wp2
            go_ret
            exact ⟨by rw [HR.out, hok, HOK2.out, HEQ.out]; simp, rfl⟩
      · cases off
        · go_wp2
          go_ret
          exact ⟨by rw [HR.out, hok, HOK.out.1, if_neg HOK.out.2]; rfl, rfl⟩
        · go_wp2
          go_ret
          exact ⟨by rw [HR.out, hok, HOK.out.1, if_neg HOK.out.2]; rfl, rfl⟩
end Go.Proofs.YtjdkpcibdjhdoaaDoor
