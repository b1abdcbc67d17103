/-
  What the document's Restart does, by a contract.
-/
import Derived.Test.YtglfbigklnaegaaRefH
import Derived.Test.YtglfbigklnaegaaMemW
namespace Go.Proofs.Ytglfbigklnaegaa
open Go.RowKit Mem FM
set_option linter.unusedVariables false
set_option maxRecDepth 100000
variable {K : Nat → Prop}

def RRest (K F : Nat → Prop) (X : Nat) (s' : St) (w : World) (e : Ending) (w' : World) : Prop := e = .returned (.tuple #[]) ∧ RefAt K w' F X s' ∧ Turned F w w'
theorem mid_set (ks : List Int) {fs : List (File Unit)} {i : Nat} (h : i < fs.length) : (mid ks fs i).set i (lostF (ks[i]?.getD 0) fs[i]) = mid ks fs (i + 1) := by
  rw [mid_at ks h, mid_succ ks h]
  have hl : (restartFs ks (fs.take i)).length = i := by simp [restartFs]; omega
  rw [List.set_append_right _ _ (by omega), hl, Nat.sub_self]
  rfl
theorem mid_get (ks : List Int) {fs : List (File Unit)} {i : Nat} (h : i < fs.length) : (mid ks fs i)[i]? = some fs[i] := by
  rw [mid_at ks h]
  have hl : (restartFs ks (fs.take i)).length = i := by simp [restartFs]; omega
  rw [List.getElem?_append_right (by omega), hl, Nat.sub_self]
  rfl
theorem Steady.upto {K F : Nat → Prop} {w : World} {A : Option Addr} {n c m : Nat} {l : List UInt8} (h : Steady K F w A n c l) (hm : m ≤ n) : Steady K F w A m c (l.take m) := fun w' h' => (h w' h').upto hm

/-- one file has lost what it loses: its two cells are written -/
theorem RefF.lost {w : World} {F : Nat → Prop} {X g n c i m : Nat} {fs : List (File Sl)} {s : St} (h : RefF K w F X (.slice (some ⟨g, 0, none⟩) n c) fs s) (hi : i < fs.length) (h1 : fs[i].sure ≤ m) (h2 : m ≤ fs[i].data.length) :
    RefF K ((w.setCell ⟨g, i * 3 + 1, none⟩ (.slice fs[i].x.A m fs[i].x.c)).setCell ⟨g, i * 3 + 2, none⟩ (.int .i64 (m : Int))) F X (.slice (some ⟨g, 0, none⟩) n c) (fs.set i ⟨fs[i].name, fs[i].data.take m, m, fs[i].x⟩) ⟨s.room, bare (fs.set i ⟨fs[i].name, fs[i].data.take m, m, fs[i].x⟩), s.ops, s.fuse, s.off⟩ ∧
      Turned F w ((w.setCell ⟨g, i * 3 + 1, none⟩ (.slice fs[i].x.A m fs[i].x.c)).setCell ⟨g, i * 3 + 2, none⟩ (.int .i64 (m : Int))) := by
  have hlen : (fs[i].data.take m).length = m := by simp; omega
  have hroom : used fs ≤ s.room := by have := h.2.2.2.2.2.2.2.1.1; rwa [← h.2.2.2.2.1, bare_used] at this
  have hu1 := used_upd (f := (⟨fs[i].name, fs[i].data.take m, fs[i].sure, fs[i].x⟩ : File Sl)) hi
  simp only [hlen] at hu1
  have hst := (h.2.2.2.2.2.2.1 fs[i] (List.getElem_mem hi)).1
  have e1 := rcells_data fs i hi (fs[i].data.take m) fs[i].x
  rw [hlen] at e1
  have hup := h.upd (i := i) (j := i * 3 + 1) (f := ⟨fs[i].name, fs[i].data.take m, fs[i].sure, fs[i].x⟩) hi rfl e1 (by simp only [hlen]; exact hst.upto h2) (by simp only [hlen]; exact h1) (by omega)
  have hi' : i < (fs.set i ⟨fs[i].name, fs[i].data.take m, fs[i].sure, fs[i].x⟩).length := by simpa using hi
  have e2 := rcells_sure (fs.set i ⟨fs[i].name, fs[i].data.take m, fs[i].sure, fs[i].x⟩) i hi' m
  have hg : (fs.set i ⟨fs[i].name, fs[i].data.take m, fs[i].sure, fs[i].x⟩)[i] = ⟨fs[i].name, fs[i].data.take m, fs[i].sure, fs[i].x⟩ := by simp
  have hst2 := (hup.1.2.2.2.2.2.2.1 _ (List.getElem_mem hi')).1
  have hu2 := used_upd (f := (⟨fs[i].name, fs[i].data.take m, m, fs[i].x⟩ : File Sl)) hi'
  rw [hg] at e2 hst2 hu2
  simp only [List.set_set] at e2 hu2
  have hup2 := hup.1.upd (i := i) (j := i * 3 + 2) (f := ⟨fs[i].name, fs[i].data.take m, m, fs[i].x⟩) hi' (by rw [hg]) (by rw [e2, List.set_set]) hst2 (by simp only [hlen]; omega) (by rw [List.set_set]; show _ ≤ s.room; omega)
  rw [List.set_set] at hup2
  exact ⟨hup2.1, hup.2.trans hup2.2⟩
set_option maxHeartbeats 8000000 in
theorem ref_restart_any (X : Nat) (F : Nat → Prop) (s : St) (A : Option Addr) (n c : Nat) (ks : List Int) (w : World) (h : RefAt K w F X s) (hk : ∀ w', Turned F w w' → RdV w' w'.heap.size A n c (ks.map (Value.int .i64))) (hkb : ∀ k ∈ ks, -9223372036854775808 ≤ k ∧ k ≤ 9223372036854775807) :
    Calls Try.prog 26 #[.pointer (some ⟨X, 0, none⟩), .slice A n c] w (RRest K F X (restarted s ks) w) := by
  obtain ⟨v, fs, hR⟩ := h
  obtain ⟨A0, c0', rfl, hcc, hccm⟩ := hR.form
  obtain ⟨nf, hnf⟩ : ∃ nf, fs.length = nf := ⟨_, rfl⟩
  rw [hnf] at hcc hR
  have hrd := hk w (Turned.refl _ _)
  have hnc := hrd.2.1
  have hcm := hrd.max
  have HNK := Lib.hid (show n = ks.length by have := hrd.1; simpa using this)
  have HKB := Lib.hid hkb
  have HK := Lib.hid hk
  have HFL := Lib.hid (show s.files.length = nf by rw [← hR.2.2.2.2.1]; simpa [bare] using hnf)
  have H0 := Lib.hid (show ∃ fs', fs'.length = nf ∧ RefF K w F X (.slice A0 nf c0') fs' (s.with_ (mid ks s.files 0)) ∧ Turned F w w from ⟨fs, hnf, by rw [mid_zero]; exact hR, Turned.refl _ _⟩)
  have hnn : nf < 1099511627776 := by have := hR.2.2.2.2.2.2.2.1; omega
  have c0 := hR.1.c0
  have HX0 := Lib.hid (hR.2.2.2.2.2.2.2.2 X hR.2.1)
  clear hR hrd hk hkb hnf
  go_enter Try.func26, Try.ntmps26
  go_wp2
  go_loopw [4] (fun p wr => ∃ i : Nat, p = .int .i64 (i : Int) ∧ i ≤ nf ∧ Hid (∃ fs', fs'.length = nf ∧ RefF K wr F X (.slice A0 nf c0') fs' (s.with_ (mid ks s.files i)) ∧ Turned F w wr)) (fun p _ => nf - (intOf p).toNat)
  case atStart => exact ⟨0, rfl, by omega, H0⟩
  case round =>
    obtain ⟨i, rfl, hi, HI⟩ := hrel
    rename World => wr
    obtain ⟨fs1, hl1, hR1, ht1⟩ := HI.out
    have d0 := hR1.1.c0
    by_cases hlt : i < nf
    · have hix : i < fs1.length := by rw [hl1]; exact hlt
      obtain ⟨g, rfl, hg, hFg, _, q0, q1, q2⟩ := hR1.at_ hix
      have hil : (i : Int) < (nf : Int) := by omega
      have hXl := hR1.2.2.2.2.2.2.2.2 X hR1.2.1
      have hgX : g ≠ X := hR1.ne rfl
      have hsu := (hR1.2.2.2.2.2.2.1 fs1[i] (List.getElem_mem hix)).2
      have hfz : ∃ cur, wr.heap[g]? = some (.cells cur 60 (0, 0)) := row_type hR1.2.2.1 rfl
      obtain ⟨nm, hnm⟩ : ∃ nm, fs1[i].name = nm := ⟨_, rfl⟩
      obtain ⟨L, hL⟩ : ∃ L, fs1[i].data.length = L := ⟨_, rfl⟩
      obtain ⟨S, hS⟩ : ∃ S, fs1[i].sure = S := ⟨_, rfl⟩
      obtain ⟨xA, hxA⟩ : ∃ a, fs1[i].x.A = a := ⟨_, rfl⟩
      obtain ⟨xc, hxc⟩ : ∃ a, fs1[i].x.c = a := ⟨_, rfl⟩
      have hrdf := ((hR1.2.2.2.2.2.2.1 fs1[i] (List.getElem_mem hix)).1).rd
      have hLc := hrdf.cap
      have hcm2 := hrdf.max
      have hLb : L ≤ 67108864 := by
        have h1 := used_mem (List.getElem_mem hix)
        have h2 := hR1.2.2.2.2.2.2.2.1
        rw [← hR1.2.2.2.2.1, bare_used] at h2
        have h3 := h2.1; have h4 := h2.2.1
        rw [hL] at h1; omega
      have HLOST := Lib.hid (fun (W : World) (hb : Below wr.heap.size wr W) (m : Nat) (h1 : S ≤ m) (h2 : m ≤ L) => (hR1.below hb).lost (m := m) hix (by rw [hS]; exact h1) (by rw [hL]; exact h2))
      have HMID := Lib.hid (fun (m : Nat) (hm : left L S (ks[i]?.getD 0) = m) => show bare (fs1.set i ⟨fs1[i].name, fs1[i].data.take m, m, fs1[i].x⟩) = mid ks s.files (i + 1) by
        have hfi : i < s.files.length := by rw [HFL.out]; exact hlt
        rw [bare_upd, hR1.2.2.2.2.1, ← mid_set ks hfi]
        have hb : s.files[i] = fs1[i].bare := by
          have h1 := mid_get ks hfi
          have h2 : (bare fs1)[i]? = some fs1[i].bare := by unfold bare; rw [List.getElem?_map, List.getElem?_eq_getElem hix]; rfl
          rw [hR1.2.2.2.2.1] at h2
          have h3 := h1.symm.trans h2
          injection h3
        show (mid ks s.files i).set i _ = _
        rw [hb]
        unfold lostF File.bare
        simp only
        rw [hL, hS, hm])
      rw [hnm] at q0
      rw [hL, hxA, hxc] at q1
      rw [hS] at q2 hsu
      rw [hL] at hsu hLc
      rw [hxc] at hLc hcm2
      rw [hxA, hxc] at HLOST
      have HRW := Lib.hid (HK.out wr ht1)
      have HT1 := Lib.hid ht1
      have HFZ := Lib.hid hfz
      have HL1 := Lib.hid hl1
      clear hR1 ht1 hl1 hfz hrdf hFg hnm hL hS hxA hxc HI
      by_cases hin : i < n
      · obtain ⟨kv, hkv⟩ : ∃ kv, ks[i]? = some kv := ⟨ks[i]'(by rw [← HNK.out]; exact hin), List.getElem?_eq_getElem _⟩
        obtain ⟨b, off, rfl, hb, qk⟩ := HRW.out.at_ hin
        rw [List.getElem?_map, hkv] at qk
        simp only [Option.map_some] at qk
        have hkvb := HKB.out kv (List.mem_of_getElem? hkv)
        have hkb1 := hkvb.1
        have hkb2 := hkvb.2
        have hq1 : decide ((i : Int) < (n : Int)) = true := by simp; omega
        rw [hkv] at HMID
        simp only [Option.getD_some] at HMID
        clear hkvb hkv
        by_cases hpos : 0 < kv
        · obtain ⟨kn, rfl⟩ := Int.eq_ofNat_of_zero_le (Int.le_of_lt hpos)
          have hq2 : decide ((0 : Int) < (kn : Int)) = true := by simpa using hpos
          have hw1 : IntKind.i64.wrap ((L : Int) - (S : Int)) = (L : Int) - (S : Int) := IntWalk.i64_in _ (by omega)
          by_cases hbig : L - S < kn
          · have hq3 : decide ((L : Int) - (S : Int) < (kn : Int)) = true := by simp; omega
            have HM := Lib.hid (HMID.out L (by unfold left; rw [if_neg (by omega), if_neg (by omega)]))
            have hb3 := (Below.refl wr.heap.size wr).alloc (Nat.le_refl _) (.cells #[.string ⟨nm.toArray⟩, .slice xA L xc, .int .i64 (S : Int)] 60)
            have HU := Lib.hid (fun (W : World) (hW : Below wr.heap.size wr W) => HLOST.out W hW L (hsu) (Nat.le_refl _))
            clear HMID HLOST
            have b1 : L ≤ xc := by omega
            have b2 : ((L : Nat) : Int) ≤ (xc : Int) := by omega
            go_wp2_with fail
            go_quiet (fail)
            clear hw1
            go_wp2_with fail
            have hb5 : Below wr.heap.size wr ((wr.alloc (.cells #[.string ⟨nm.toArray⟩, .slice xA L xc, .int .i64 (S : Int)] 60)).drewN nq) := ⟨hb3.os, hb3.tape, hb3.output, hb3.size, hb3.block⟩
            have e0 := (hb5.cell (p := ⟨X, 0, none⟩) hXl).trans d0
            have e1 := (hb5.cell (p := ⟨g, i * 3 + 1, none⟩) hg).trans q1
            have e2 := (hb5.cell (p := ⟨g, i * 3 + 2, none⟩) hg).trans q2
            have z1 : ((wr.alloc (.cells #[.string ⟨nm.toArray⟩, .slice xA L xc, .int .i64 (S : Int)] 60)).drewN nq).frozen? ⟨g, i * 3 + 1, none⟩ = false := by obtain ⟨cur, hh⟩ := HFZ.out; exact freeAt _ (heapOld hh)
            have z2 : ((wr.alloc (.cells #[.string ⟨nm.toArray⟩, .slice xA L xc, .int .i64 (S : Int)] 60)).drewN nq).frozen? ⟨g, i * 3 + 2, none⟩ = false := by obtain ⟨cur, hh⟩ := HFZ.out; exact freeAt _ (heapOld hh)
            have y1 : ((wr.alloc (.cells #[.string ⟨nm.toArray⟩, .slice xA L xc, .int .i64 (S : Int)] 60)).drewN nq).cell? ⟨wr.heap.size, 1, none⟩ = some (.slice xA L xc) := (cellAt 1 (heapNew (w := wr) (.cells #[.string ⟨nm.toArray⟩, .slice xA L xc, .int .i64 (S : Int)] 60))).trans rfl
            have HB3 := Lib.hid hb5
            clear hb3 hb5 q0 q1 q2 d0
            generalize (wr.alloc (.cells #[.string ⟨nm.toArray⟩, .slice xA L xc, .int .i64 (S : Int)] 60)).drewN nq = W at *
            go_still_tail 11, (by kernel_rfl)
            change wpList _ _ _ _ _ W.drew
            have HUP := Lib.hid (HU.out W.drew ⟨HB3.out.os, HB3.out.tape, HB3.out.output, HB3.out.size, HB3.out.block⟩)
            have HT4 := Lib.hid (show Turned F w W.drew from (HT1.out.trans (Turned.of_below HB3.out)).drew)
            have e0' : W.drew.cell? ⟨X, 0, none⟩ = _ := e0
            have e1' : W.drew.cell? ⟨g, i * 3 + 1, none⟩ = _ := e1
            have e2' : W.drew.cell? ⟨g, i * 3 + 2, none⟩ = _ := e2
            have z1' : W.drew.frozen? ⟨g, i * 3 + 1, none⟩ = false := z1
            have z2' : W.drew.frozen? ⟨g, i * 3 + 2, none⟩ = false := z2
            clear e0 e1 e2 z1 z2 y1 HU HB3
            generalize W.drew = w4 at *
            go_wp2
            go_roundw
            case rel =>
              have h9 := HUP.out.1
              rw [HM.out] at h9
              exact ⟨i + 1, by go_num, by omega, Lib.hid ⟨_, by rw [List.length_set, HL1.out], h9, HT4.out.trans HUP.out.2⟩⟩
            case measure => simp [intOf]; omega
          · have hq3 : decide ((L : Int) - (S : Int) < (kn : Int)) = false := by simp; omega
            have HM := Lib.hid (HMID.out (S + kn) (by unfold left; rw [if_neg (by omega), if_pos (by omega)]; simp))
            have hb3 := (Below.refl wr.heap.size wr).alloc (Nat.le_refl _) (.cells #[.string ⟨nm.toArray⟩, .slice xA L xc, .int .i64 (S : Int)] 60)
            have HU := Lib.hid (fun (W : World) (hW : Below wr.heap.size wr W) => HLOST.out W hW (S + kn) (by omega) (by omega))
            clear HMID HLOST
            have b1 : (S + kn) ≤ xc := by omega
            have b2 : (((S + kn) : Nat) : Int) ≤ (xc : Int) := by omega
            go_wp2_with fail
            go_quiet (fail)
            clear hw1
            go_wp2_with fail
            have hb5 : Below wr.heap.size wr ((wr.alloc (.cells #[.string ⟨nm.toArray⟩, .slice xA L xc, .int .i64 (S : Int)] 60)).drewN nq) := ⟨hb3.os, hb3.tape, hb3.output, hb3.size, hb3.block⟩
            have e0 := (hb5.cell (p := ⟨X, 0, none⟩) hXl).trans d0
            have e1 := (hb5.cell (p := ⟨g, i * 3 + 1, none⟩) hg).trans q1
            have e2 := (hb5.cell (p := ⟨g, i * 3 + 2, none⟩) hg).trans q2
            have z1 : ((wr.alloc (.cells #[.string ⟨nm.toArray⟩, .slice xA L xc, .int .i64 (S : Int)] 60)).drewN nq).frozen? ⟨g, i * 3 + 1, none⟩ = false := by obtain ⟨cur, hh⟩ := HFZ.out; exact freeAt _ (heapOld hh)
            have z2 : ((wr.alloc (.cells #[.string ⟨nm.toArray⟩, .slice xA L xc, .int .i64 (S : Int)] 60)).drewN nq).frozen? ⟨g, i * 3 + 2, none⟩ = false := by obtain ⟨cur, hh⟩ := HFZ.out; exact freeAt _ (heapOld hh)
            have y1 : ((wr.alloc (.cells #[.string ⟨nm.toArray⟩, .slice xA L xc, .int .i64 (S : Int)] 60)).drewN nq).cell? ⟨wr.heap.size, 1, none⟩ = some (.slice xA L xc) := (cellAt 1 (heapNew (w := wr) (.cells #[.string ⟨nm.toArray⟩, .slice xA L xc, .int .i64 (S : Int)] 60))).trans rfl
            have HB3 := Lib.hid hb5
            clear hb3 hb5 q0 q1 q2 d0
            generalize (wr.alloc (.cells #[.string ⟨nm.toArray⟩, .slice xA L xc, .int .i64 (S : Int)] 60)).drewN nq = W at *
            have b3 : (S : Int) + (kn : Int) ≤ (xc : Int) := by omega
            have b4 : (0 : Int) ≤ (S : Int) + (kn : Int) := by omega
            have b5 : ((S : Int) + (kn : Int)).toNat = S + kn := by omega
            go_still_tail 11, (by kernel_rfl)
            change wpList _ _ _ _ _ W.drew
            have HUP := Lib.hid (HU.out W.drew ⟨HB3.out.os, HB3.out.tape, HB3.out.output, HB3.out.size, HB3.out.block⟩)
            have HT4 := Lib.hid (show Turned F w W.drew from (HT1.out.trans (Turned.of_below HB3.out)).drew)
            have e0' : W.drew.cell? ⟨X, 0, none⟩ = _ := e0
            have e1' : W.drew.cell? ⟨g, i * 3 + 1, none⟩ = _ := e1
            have e2' : W.drew.cell? ⟨g, i * 3 + 2, none⟩ = _ := e2
            have z1' : W.drew.frozen? ⟨g, i * 3 + 1, none⟩ = false := z1
            have z2' : W.drew.frozen? ⟨g, i * 3 + 2, none⟩ = false := z2
            rw [show ((S + kn : Nat) : Int) = (S : Int) + (kn : Int) from by omega] at HUP
            clear e0 e1 e2 z1 z2 y1 HU HB3
            generalize W.drew = w4 at *
            go_wp2
            go_roundw
            case rel =>
              have h9 := HUP.out.1
              rw [HM.out] at h9
              exact ⟨i + 1, by go_num, by omega, Lib.hid ⟨_, by rw [List.length_set, HL1.out], h9, HT4.out.trans HUP.out.2⟩⟩
            case measure => simp [intOf]; omega
        · have hq2 : decide ((0 : Int) < kv) = false := by simpa using hpos
          have HM := Lib.hid (HMID.out S (by unfold left; rw [if_pos (by omega)]))
          have hb3 := (Below.refl wr.heap.size wr).alloc (Nat.le_refl _) (.cells #[.string ⟨nm.toArray⟩, .slice xA L xc, .int .i64 (S : Int)] 60)
          have HU := Lib.hid (fun (W : World) (hW : Below wr.heap.size wr W) => HLOST.out W hW S (Nat.le_refl _) (hsu))
          clear HMID HLOST
          have b1 : S ≤ xc := by omega
          have b2 : ((S : Nat) : Int) ≤ (xc : Int) := by omega
          go_wp2_with fail
          have e0 := (hb3.cell (p := ⟨X, 0, none⟩) hXl).trans d0
          have e1 := (hb3.cell (p := ⟨g, i * 3 + 1, none⟩) hg).trans q1
          have e2 := (hb3.cell (p := ⟨g, i * 3 + 2, none⟩) hg).trans q2
          have z1 : (wr.alloc (.cells #[.string ⟨nm.toArray⟩, .slice xA L xc, .int .i64 (S : Int)] 60)).frozen? ⟨g, i * 3 + 1, none⟩ = false := by obtain ⟨cur, hh⟩ := HFZ.out; exact freeAt _ (heapOld hh)
          have z2 : (wr.alloc (.cells #[.string ⟨nm.toArray⟩, .slice xA L xc, .int .i64 (S : Int)] 60)).frozen? ⟨g, i * 3 + 2, none⟩ = false := by obtain ⟨cur, hh⟩ := HFZ.out; exact freeAt _ (heapOld hh)
          have y1 : (wr.alloc (.cells #[.string ⟨nm.toArray⟩, .slice xA L xc, .int .i64 (S : Int)] 60)).cell? ⟨wr.heap.size, 1, none⟩ = some (.slice xA L xc) := (cellAt 1 (heapNew (w := wr) (.cells #[.string ⟨nm.toArray⟩, .slice xA L xc, .int .i64 (S : Int)] 60))).trans rfl
          have HB3 := Lib.hid hb3
          clear hb3 q0 q1 q2 d0
          generalize wr.alloc (.cells #[.string ⟨nm.toArray⟩, .slice xA L xc, .int .i64 (S : Int)] 60) = W at *
          go_still_tail 11, (by kernel_rfl)
          change wpList _ _ _ _ _ W.drew
          have HUP := Lib.hid (HU.out W.drew ⟨HB3.out.os, HB3.out.tape, HB3.out.output, HB3.out.size, HB3.out.block⟩)
          have HT4 := Lib.hid (show Turned F w W.drew from (HT1.out.trans (Turned.of_below HB3.out)).drew)
          have e0' : W.drew.cell? ⟨X, 0, none⟩ = _ := e0
          have e1' : W.drew.cell? ⟨g, i * 3 + 1, none⟩ = _ := e1
          have e2' : W.drew.cell? ⟨g, i * 3 + 2, none⟩ = _ := e2
          have z1' : W.drew.frozen? ⟨g, i * 3 + 1, none⟩ = false := z1
          have z2' : W.drew.frozen? ⟨g, i * 3 + 2, none⟩ = false := z2
          clear e0 e1 e2 z1 z2 y1 HU HB3
          generalize W.drew = w4 at *
          go_wp2
          go_roundw
          case rel =>
            have h9 := HUP.out.1
            rw [HM.out] at h9
            exact ⟨i + 1, by go_num, by omega, Lib.hid ⟨_, by rw [List.length_set, HL1.out], h9, HT4.out.trans HUP.out.2⟩⟩
          case measure => simp [intOf]; omega
      · have hkv : ks[i]? = none := List.getElem?_eq_none (by rw [← HNK.out]; omega)
        rw [hkv] at HMID
        simp only [Option.getD_none] at HMID
        have hq1 : decide ((i : Int) < (n : Int)) = false := by simp; omega
        clear hkv
        have HM := Lib.hid (HMID.out S (by unfold left; simp))
        have hb3 := (Below.refl wr.heap.size wr).alloc (Nat.le_refl _) (.cells #[.string ⟨nm.toArray⟩, .slice xA L xc, .int .i64 (S : Int)] 60)
        have HU := Lib.hid (fun (W : World) (hW : Below wr.heap.size wr W) => HLOST.out W hW S (Nat.le_refl _) (hsu))
        clear HMID HLOST
        have b1 : S ≤ xc := by omega
        have b2 : ((S : Nat) : Int) ≤ (xc : Int) := by omega
        go_wp2_with fail
        have e0 := (hb3.cell (p := ⟨X, 0, none⟩) hXl).trans d0
        have e1 := (hb3.cell (p := ⟨g, i * 3 + 1, none⟩) hg).trans q1
        have e2 := (hb3.cell (p := ⟨g, i * 3 + 2, none⟩) hg).trans q2
        have z1 : (wr.alloc (.cells #[.string ⟨nm.toArray⟩, .slice xA L xc, .int .i64 (S : Int)] 60)).frozen? ⟨g, i * 3 + 1, none⟩ = false := by obtain ⟨cur, hh⟩ := HFZ.out; exact freeAt _ (heapOld hh)
        have z2 : (wr.alloc (.cells #[.string ⟨nm.toArray⟩, .slice xA L xc, .int .i64 (S : Int)] 60)).frozen? ⟨g, i * 3 + 2, none⟩ = false := by obtain ⟨cur, hh⟩ := HFZ.out; exact freeAt _ (heapOld hh)
        have y1 : (wr.alloc (.cells #[.string ⟨nm.toArray⟩, .slice xA L xc, .int .i64 (S : Int)] 60)).cell? ⟨wr.heap.size, 1, none⟩ = some (.slice xA L xc) := (cellAt 1 (heapNew (w := wr) (.cells #[.string ⟨nm.toArray⟩, .slice xA L xc, .int .i64 (S : Int)] 60))).trans rfl
        have HB3 := Lib.hid hb3
        clear hb3 q0 q1 q2 d0
        generalize wr.alloc (.cells #[.string ⟨nm.toArray⟩, .slice xA L xc, .int .i64 (S : Int)] 60) = W at *
        go_still_tail 11, (by kernel_rfl)
        change wpList _ _ _ _ _ W.drew
        have HUP := Lib.hid (HU.out W.drew ⟨HB3.out.os, HB3.out.tape, HB3.out.output, HB3.out.size, HB3.out.block⟩)
        have HT4 := Lib.hid (show Turned F w W.drew from (HT1.out.trans (Turned.of_below HB3.out)).drew)
        have e0' : W.drew.cell? ⟨X, 0, none⟩ = _ := e0
        have e1' : W.drew.cell? ⟨g, i * 3 + 1, none⟩ = _ := e1
        have e2' : W.drew.cell? ⟨g, i * 3 + 2, none⟩ = _ := e2
        have z1' : W.drew.frozen? ⟨g, i * 3 + 1, none⟩ = false := z1
        have z2' : W.drew.frozen? ⟨g, i * 3 + 2, none⟩ = false := z2
        clear e0 e1 e2 z1 z2 y1 HU HB3
        generalize W.drew = w4 at *
        go_wp2
        go_roundw
        case rel =>
          have h9 := HUP.out.1
          rw [HM.out] at h9
          exact ⟨i + 1, by go_num, by omega, Lib.hid ⟨_, by rw [List.length_set, HL1.out], h9, HT4.out.trans HUP.out.2⟩⟩
        case measure => simp [intOf]; omega
    · have hfu : 0 ≤ 9223372036854775807 := by omega
      have HR1 := Lib.hid hR1
      have HT1 := Lib.hid ht1
      have x2 := hR1.1.c2; have x3 := hR1.1.c3
      have f2 : wr.frozen? ⟨X, 2, none⟩ = false := freeAt 2 hR1.1
      have f3 : wr.frozen? ⟨X, 3, none⟩ = false := freeAt 3 hR1.1
      have HE := Lib.hid (mid_end ks s.files (i := i) (by rw [HFL.out]; omega))
      clear hR1 ht1 HI hl1
      go_wp2
      have ht : Turned (· = X) wr ((wr.setCell ⟨X, 3, none⟩ (.bool false)).setCell ⟨X, 2, none⟩ (.int .i64 0)) := setX (setX (Turned.refl _ wr) _ _) _ _
      have hfin := HR1.out.reset (s' := restarted s ks) ht (show _ = _ from (heapSet 2 _ (heapSet 3 _ HR1.out.1)).trans rfl) (show restartFs ks s.files = mid ks s.files i from HE.out.symm) rfl (by show 0 ≤ _; omega) (Nat.le_refl _) HR1.out.2.2.2.2.2.2.2.1.2.2.2.1
      refine bodyPost_end (results_none rfl _ _ _) rfl ?_
      exact ⟨rfl, ⟨_, _, hfin⟩, HT1.out.trans (ht.more (fun k _ hk => by subst hk; exact HR1.out.2.1))⟩
end Go.Proofs.Ytglfbigklnaegaa
