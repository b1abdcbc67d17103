/-
  What the document's Grow does: as Append, as Put.
-/
import Derived.Test.YtglfbigklnaegaaRefG
namespace Go.Proofs.Ytglfbigklnaegaa
open Go.RowKit Mem FM
set_option linter.unusedVariables false
set_option maxRecDepth 100000
variable {K : Nat → Prop}

set_option maxHeartbeats 4000000 in
theorem ref_append_any (X : Nat) (F : Nat → Prop) (s : St) (nm : ByteArray) (A : Option Addr) (n c : Nat) (l : List UInt8) (w : World) (h : RefAt K w F X s) (hs : nm.size ≤ 9223372036854775807) (hp : Steady K F w A n c l) (ho : s.ops + 1 < 1099511627776) (hKb : ∀ k, K k → k < w.heap.size) :
    Calls Try.prog 17 #[.pointer (some ⟨X, 0, none⟩), .string nm, .slice A n c, .bool false] w (RDid K F X (appended s nm l).1 (appended s nm l).2 w) := by
  obtain ⟨v, fs, hR⟩ := h
  have HSAME := Lib.hid (show ∀ x : Int, RDid K F X x s w (.returned (.int .i64 x)) w from fun x => ⟨rfl, F, ⟨v, fs, hR⟩, Turned.refl _ _, Spread.refl _ _⟩)
  have HSAMEd := Lib.hid (show ∀ (x : Int) (k : Nat), RDid K F X x s w (.returned (.int .i64 x)) (w.drewN k) from fun x k => ⟨rfl, F, ⟨v, fs, hR.below ⟨rfl, rfl, rfl, Nat.le_refl _, fun _ _ => rfl⟩⟩, (Turned.refl _ _).drewN k, Spread.refl _ _⟩)
  have HLN := Lib.hid hp.rd.len
  have hmx := hp.rd.max; have hcap := hp.rd.cap
  by_cases hr : ready1 nm s.off = 0
  · obtain ⟨hok, hoff⟩ := ready_parts hr
    by_cases hroom : used s.files + n ≤ s.room
    · have HS := Lib.hid (show ¬ s.room - used s.files < l.length by have := HLN.out; omega)
      rcases place_find (n := nm.data.toList) (fs := fs) with ⟨hf, hpl⟩ | ⟨i, hi, hf, hpl, hnm⟩
      · have hff : find nm.data.toList s.files = none := by rw [← hR.2.2.2.2.1, bare_find, hf]; rfl
        have e : appended s nm l = (opErr s.fuse, s.op (grow nm.data.toList l s.files)) := by
          unfold appended
          rw [if_pos hr]
          unfold wrote; rw [if_neg HS.out]
        rw [e]
        exact ref_grow_new_f X F v fs s nm A n c l w hR hs hp hr hf hpl hroom ho hKb
      · have e : appended s nm l = (opErr s.fuse, s.op (grow nm.data.toList l s.files)) := by unfold appended wrote; rw [if_pos hr, if_neg HS.out]
        rw [e]
        exact ref_grow_old X F v fs s nm A n c l w hR hs hp hr i hi hnm hpl hroom ho hKb
    · have HS := Lib.hid (show s.room - used s.files < l.length by have := HLN.out; have := hR.2.2.2.2.2.2.2.1.1; omega)
      have HY := Lib.hid (show appended s nm l = (11, s) by unfold appended wrote; rw [if_pos hr, if_pos HS.out])
      rcases place_find (n := nm.data.toList) (fs := fs) with ⟨hf, hpl⟩ | ⟨i, hi, hf, hpl, hnm⟩
      · have HNM := Lib.hid (ref_name_any nm w hs)
        have HAT := Lib.hid (ref_at_any X F v fs s nm w hR)
        rw [hok] at HNM
        have c1 := hR.1.c1; have c3 := hR.1.c3
        rw [hoff] at c3
        rw [hpl] at HAT
        have HUS := Lib.hid (fun k => ref_used_any X F v fs s (w.drewN k) (hR.below ⟨rfl, rfl, rfl, Nat.le_refl _, fun _ _ => rfl⟩))
        have hbd := hR.2.2.2.2.2.2.2.1.2.1
        have hub := hR.2.2.2.2.2.2.2.1.1
        obtain ⟨rm, hrm⟩ : ∃ rm, s.room = rm := ⟨_, rfl⟩
        obtain ⟨us, hus⟩ : ∃ us, used s.files = us := ⟨_, rfl⟩
        rw [hrm] at c1 hbd hub hroom
        rw [hus] at hub hroom
        simp only [hus] at HUS
        have hw1 : IntKind.i64.wrap ((rm : Int) - (us : Int)) = (rm : Int) - (us : Int) := IntWalk.i64_in _ (by omega)
        have hq : decide ((rm : Int) - (us : Int) < (n : Int)) = true := by simp; omega
        clear hKb hR hp hr hpl hok hoff hrm hus hf
        go_enter Try.func17, Try.ntmps17
        go_wp2_with fail
        refine HNM.out.mono ?_
        rintro e w1 ⟨rfl, rfl⟩
        go_wp2_with fail
        refine HAT.out.mono ?_
        rintro e w1' ⟨rfl, rfl⟩
        go_wp2_with fail
        go_quiet ((go_at_call 27; refine Calls.quiet_of_same (HUS.out _)))
        clear hw1
        go_wp2
        go_ret
        rw [HY.out]
        exact HSAMEd.out 11 _
      · have HNM := Lib.hid (ref_name_any nm w hs)
        have HAT := Lib.hid (ref_at_any X F v fs s nm w hR)
        rw [hok] at HNM
        have c1 := hR.1.c1; have c3 := hR.1.c3
        rw [hoff] at c3
        rw [hpl] at HAT
        have HUS := Lib.hid (fun k => ref_used_any X F v fs s (w.drewN k) (hR.below ⟨rfl, rfl, rfl, Nat.le_refl _, fun _ _ => rfl⟩))
        have hbd := hR.2.2.2.2.2.2.2.1.2.1
        have hub := hR.2.2.2.2.2.2.2.1.1
        obtain ⟨rm, hrm⟩ : ∃ rm, s.room = rm := ⟨_, rfl⟩
        obtain ⟨us, hus⟩ : ∃ us, used s.files = us := ⟨_, rfl⟩
        rw [hrm] at c1 hbd hub hroom
        rw [hus] at hub hroom
        simp only [hus] at HUS
        have hw1 : IntKind.i64.wrap ((rm : Int) - (us : Int)) = (rm : Int) - (us : Int) := IntWalk.i64_in _ (by omega)
        have hq : decide ((rm : Int) - (us : Int) < (n : Int)) = true := by simp; omega
        clear hnm
        clear hKb hR hp hr hpl hok hoff hrm hus hf
        go_enter Try.func17, Try.ntmps17
        go_wp2_with fail
        refine HNM.out.mono ?_
        rintro e w1 ⟨rfl, rfl⟩
        go_wp2_with fail
        refine HAT.out.mono ?_
        rintro e w1' ⟨rfl, rfl⟩
        go_wp2_with fail
        go_quiet ((go_at_call 27; refine Calls.quiet_of_same (HUS.out _)))
        clear hw1
        go_wp2
        go_ret
        rw [HY.out]
        exact HSAMEd.out 11 _

  · have HY := Lib.hid (show appended s nm l = (ready1 nm s.off, s) by unfold appended; rw [if_neg hr])
    have HRD := Lib.hid (show ready1 nm s.off = if nameOk nm = true then (if s.off then 10 else 0) else 1 from rfl)
    have HNM := Lib.hid (ref_name_any nm w hs)
    have c3 := hR.1.c3
    cases hok : nameOk nm
    · have HX := Lib.hid (show ready1 nm s.off = 1 by rw [HRD.out, hok]; rfl)
      rw [hok] at HNM
      clear hKb hR hp hr hok
      go_enter Try.func17, Try.ntmps17
      go_wp2_with fail
      refine HNM.out.mono ?_
      rintro e w1 ⟨rfl, rfl⟩
      go_wp2
      go_ret
      rw [HY.out, HX.out]
      exact HSAME.out 1
    · rw [hok] at HNM
      cases hoff : s.off
      · exact absurd (show ready1 nm s.off = 0 by rw [HRD.out, hok, hoff]; rfl) hr
      · have HX := Lib.hid (show ready1 nm s.off = 10 by rw [HRD.out, hok, hoff]; rfl)
        rw [hoff] at c3
        clear hKb hR hp hr hok hoff
        go_enter Try.func17, Try.ntmps17
        go_wp2_with fail
        refine HNM.out.mono ?_
        rintro e w1 ⟨rfl, rfl⟩
        go_wp2
        go_ret
        rw [HY.out, HX.out]
        exact HSAME.out 10

set_option maxHeartbeats 4000000 in
theorem ref_put_any (X : Nat) (F : Nat → Prop) (s : St) (nm : ByteArray) (A : Option Addr) (n c : Nat) (l : List UInt8) (w : World) (h : RefAt K w F X s) (hs : nm.size ≤ 9223372036854775807) (hp : Steady K F w A n c l) (ho : s.ops + 1 < 1099511627776) (hKb : ∀ k, K k → k < w.heap.size) :
    Calls Try.prog 17 #[.pointer (some ⟨X, 0, none⟩), .string nm, .slice A n c, .bool true] w (RDid K F X (putR s nm l).1 (putR s nm l).2 w) := by
  obtain ⟨v, fs, hR⟩ := h
  have HSAME := Lib.hid (show ∀ x : Int, RDid K F X x s w (.returned (.int .i64 x)) w from fun x => ⟨rfl, F, ⟨v, fs, hR⟩, Turned.refl _ _, Spread.refl _ _⟩)
  have HSAMEd := Lib.hid (show ∀ (x : Int) (k : Nat), RDid K F X x s w (.returned (.int .i64 x)) (w.drewN k) from fun x k => ⟨rfl, F, ⟨v, fs, hR.below ⟨rfl, rfl, rfl, Nat.le_refl _, fun _ _ => rfl⟩⟩, (Turned.refl _ _).drewN k, Spread.refl _ _⟩)
  have HLN := Lib.hid hp.rd.len
  have hmx := hp.rd.max; have hcap := hp.rd.cap
  by_cases hr : ready1 nm s.off = 0
  · obtain ⟨hok, hoff⟩ := ready_parts hr
    by_cases hroom : used s.files + n ≤ s.room
    · have HS := Lib.hid (show ¬ s.room - used s.files < l.length by have := HLN.out; omega)
      rcases place_find (n := nm.data.toList) (fs := fs) with ⟨hf, hpl⟩ | ⟨i, hi, hf, hpl, hnm⟩
      · have hff : find nm.data.toList s.files = none := by rw [← hR.2.2.2.2.1, bare_find, hf]; rfl
        have e : putR s nm l = (opErr s.fuse, s.op (grow nm.data.toList l s.files)) := by
          unfold putR
          rw [if_pos hr]
          unfold putNew; rw [hff]; unfold wrote; simp only; rw [if_neg HS.out]
        rw [e]
        exact ref_grow_new_t X F v fs s nm A n c l w hR hs hp hr hf hpl hroom ho hKb
      · have HY := Lib.hid (show putR s nm l = (9, s) by
          have hff : find nm.data.toList s.files = some fs[i].bare := by rw [← hR.2.2.2.2.1, bare_find, hf]; rfl
          unfold putR putNew; rw [if_pos hr, hff])
        have HNM := Lib.hid (ref_name_any nm w hs)
        have HAT := Lib.hid (ref_at_any X F v fs s nm w hR)
        rw [hok] at HNM
        have c1 := hR.1.c1; have c3 := hR.1.c3
        rw [hoff] at c3
        rw [hpl] at HAT
        clear hKb hR hp hr hpl hok hoff hf hnm hi
        go_enter Try.func17, Try.ntmps17
        go_wp2_with fail
        refine HNM.out.mono ?_
        rintro e w1 ⟨rfl, rfl⟩
        go_wp2_with fail
        refine HAT.out.mono ?_
        rintro e w1' ⟨rfl, rfl⟩
        go_wp2
        go_ret
        rw [HY.out]
        exact HSAME.out 9
    · rcases place_find (n := nm.data.toList) (fs := fs) with ⟨hf, hpl⟩ | ⟨i, hi, hf, hpl, hnm⟩
      · have HS := Lib.hid (show s.room - used s.files < l.length by have := HLN.out; have := hR.2.2.2.2.2.2.2.1.1; omega)
        have HY := Lib.hid (show putR s nm l = (11, s) by
          have hff : find nm.data.toList s.files = none := by rw [← hR.2.2.2.2.1, bare_find, hf]; rfl
          unfold putR putNew; rw [if_pos hr, hff]; unfold wrote; simp only; rw [if_pos HS.out])
        have HNM := Lib.hid (ref_name_any nm w hs)
        have HAT := Lib.hid (ref_at_any X F v fs s nm w hR)
        rw [hok] at HNM
        have c1 := hR.1.c1; have c3 := hR.1.c3
        rw [hoff] at c3
        rw [hpl] at HAT
        have HUS := Lib.hid (fun k => ref_used_any X F v fs s (w.drewN k) (hR.below ⟨rfl, rfl, rfl, Nat.le_refl _, fun _ _ => rfl⟩))
        have hbd := hR.2.2.2.2.2.2.2.1.2.1
        have hub := hR.2.2.2.2.2.2.2.1.1
        obtain ⟨rm, hrm⟩ : ∃ rm, s.room = rm := ⟨_, rfl⟩
        obtain ⟨us, hus⟩ : ∃ us, used s.files = us := ⟨_, rfl⟩
        rw [hrm] at c1 hbd hub hroom
        rw [hus] at hub hroom
        simp only [hus] at HUS
        have hw1 : IntKind.i64.wrap ((rm : Int) - (us : Int)) = (rm : Int) - (us : Int) := IntWalk.i64_in _ (by omega)
        have hq : decide ((rm : Int) - (us : Int) < (n : Int)) = true := by simp; omega
        clear hKb hR hp hr hpl hok hoff hrm hus hf
        go_enter Try.func17, Try.ntmps17
        go_wp2_with fail
        refine HNM.out.mono ?_
        rintro e w1 ⟨rfl, rfl⟩
        go_wp2_with fail
        refine HAT.out.mono ?_
        rintro e w1' ⟨rfl, rfl⟩
        go_wp2_with fail
        go_quiet ((go_at_call 27; refine Calls.quiet_of_same (HUS.out _)))
        clear hw1
        go_wp2
        go_ret
        rw [HY.out]
        exact HSAMEd.out 11 _
      · have HY := Lib.hid (show putR s nm l = (9, s) by
          have hff : find nm.data.toList s.files = some fs[i].bare := by rw [← hR.2.2.2.2.1, bare_find, hf]; rfl
          unfold putR putNew; rw [if_pos hr, hff])
        have HNM := Lib.hid (ref_name_any nm w hs)
        have HAT := Lib.hid (ref_at_any X F v fs s nm w hR)
        rw [hok] at HNM
        have c1 := hR.1.c1; have c3 := hR.1.c3
        rw [hoff] at c3
        rw [hpl] at HAT
        clear hKb hR hp hr hpl hok hoff hf hnm hi
        go_enter Try.func17, Try.ntmps17
        go_wp2_with fail
        refine HNM.out.mono ?_
        rintro e w1 ⟨rfl, rfl⟩
        go_wp2_with fail
        refine HAT.out.mono ?_
        rintro e w1' ⟨rfl, rfl⟩
        go_wp2
        go_ret
        rw [HY.out]
        exact HSAME.out 9
  · have HY := Lib.hid (show putR s nm l = (ready1 nm s.off, s) by unfold putR; rw [if_neg hr])
    have HRD := Lib.hid (show ready1 nm s.off = if nameOk nm = true then (if s.off then 10 else 0) else 1 from rfl)
    have HNM := Lib.hid (ref_name_any nm w hs)
    have c3 := hR.1.c3
    cases hok : nameOk nm
    · have HX := Lib.hid (show ready1 nm s.off = 1 by rw [HRD.out, hok]; rfl)
      rw [hok] at HNM
      clear hKb hR hp hr hok
      go_enter Try.func17, Try.ntmps17
      go_wp2_with fail
      refine HNM.out.mono ?_
      rintro e w1 ⟨rfl, rfl⟩
      go_wp2
      go_ret
      rw [HY.out, HX.out]
      exact HSAME.out 1
    · rw [hok] at HNM
      cases hoff : s.off
      · exact absurd (show ready1 nm s.off = 0 by rw [HRD.out, hok, hoff]; rfl) hr
      · have HX := Lib.hid (show ready1 nm s.off = 10 by rw [HRD.out, hok, hoff]; rfl)
        rw [hoff] at c3
        clear hKb hR hp hr hok hoff
        go_enter Try.func17, Try.ntmps17
        go_wp2_with fail
        refine HNM.out.mono ?_
        rintro e w1 ⟨rfl, rfl⟩
        go_wp2
        go_ret
        rw [HY.out, HX.out]
        exact HSAME.out 10

end Go.Proofs.Ytglfbigklnaegaa
