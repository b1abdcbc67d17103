/-
  What Copy does; awake; the law WireNil.
-/
import Derived.Test.YtmhkpdfmjapdnaaWireC
import Derived.Lib.SlBytesConst
namespace Go.Proofs.Ytmhkpdfmjapdnaa
open Go.RowKit Mem
set_option linter.unusedVariables false

theorem NetDid.from_ {F : Nat → Prop} {D : Nat} {ps : List Pk} {r : Value} {w w1 : World} (ht : Turned F w w1) {e : Ending} {w' : World} (h : NetDid F D ps r w1 e w') : NetDid F D ps r w e w' := by
  obtain ⟨h1, F', h2, h3, h4⟩ := h
  exact ⟨h1, F', h2, ht.trans h3, fun k hk => (h4 k hk).elim .inl (fun h => .inr (Nat.le_trans ht.size h))⟩
/-- seen from the world in which its owner began -/
theorem NetDid.step {F : Nat → Prop} {D : Nat} {r : Value} {ps : List Pk} {w w1 w2 : World} {e : Ending} (h : NetDid F D ps r w1 e w2) (hF : ∀ k, F k → w.heap.size ≤ k) (hb : Below w.heap.size w w1) :
    e = .returned r ∧ ∃ F', NetAt w2 F' D ps ∧ (∀ k, F' k → w.heap.size ≤ k) ∧ Below w.heap.size w w2 := by
  obtain ⟨h1, F', h2, h3, h4⟩ := h
  exact ⟨h1, F', h2, fun k hk => (h4 k hk).elim (hF k) (fun h => Nat.le_trans hb.size h), hb.trans (h3.below hb.size hF)⟩

set_option maxRecDepth 100000 in
set_option maxHeartbeats 400000 in
theorem copy_any (D i : Nat) (F : Nat → Prop) (ps : List Pk) (w : World) (h : NetAt w F D ps) (hi : i < ps.length) (hps : ps.length + 1 ≤ 1099511627776) : Calls Try.prog 14 #[.pointer (some ⟨D, 0, none⟩), .int .i64 i] w (NetDid F D (ps ++ [ps[i]]) (.int .i64 0) w) := by
  obtain ⟨gb, cap, A, c, c0, hcap, hcapm, hgb, hD, k0, k1, k2, hrd, hlen⟩ := h.look hi
  have HH := Lib.hid (has_any D F ps i w h (by omega) (by omega))
  have HT := Lib.hid (there_nat hi)
  have HS := Lib.hid (send_any D w.heap.size F ps ps[i] A ps[i].data.length c w h hrd (Nat.le_refl _) hlen hps)
  clear h
  generalize hpp : ps[i] = p at *
  clear hpp
  go_enter Try.func14, Try.ntmps14
  go_wp2_with fail
  refine HH.out.mono ?_
  rintro e w1 ⟨rfl, rfl⟩
  rw [HT.out]
  go_wp2_with fail
  refine HS.out.mono ?_
  rintro e w1 ⟨rfl, hrest⟩
  have HR := Lib.hid hrest
  clear hrest
  go_wp2
  go_ret
  exact ⟨rfl, HR.out⟩

def Yes (w : World) (e : Ending) (w' : World) : Prop := e = .returned (.bool true) ∧ Below w.heap.size w w'
def awk : Pk := ⟨0, 1, [120]⟩

set_option maxRecDepth 100000 in
set_option maxHeartbeats 1000000 in
theorem awake_any (w : World) : Calls Try.prog 7 #[] w (Yes w) := by
  have kc := fun (w : World) (C : Array Value) (n c : Nat) => Lib.run_convert_bytes_const (P := Try.prog) w 27 5 C n c Try.underlying27 Try.underlying5
  go_enter Try.func7, Try.ntmps7
  go_wp2_with fail
  refine (new_any w).mono ?_
  rintro e w1 ⟨D, F, rfl, hd, hF, hb1⟩
  have HD := Lib.hid hd; have HF := Lib.hid hF; have HB1 := Lib.hid hb1
  clear hd hF hb1
  go_wp2_with fail
  refine (send_any D (w1.heap.size + 1) F [] awk _ 1 1 _ (HD.out.alloc _) (Rd.fresh w1 _ 5 (1, 2) [120] rfl (by decide)) (by simp) (by decide) (by decide)).mono ?_
  rintro e w2 hdid
  obtain ⟨rfl, F2, hd2, hF2, hb2⟩ := (hdid.from_ ((Turned.refl F w1).alloc _)).step HF.out HB1.out
  have HD2 := Lib.hid hd2; have HF2 := Lib.hid hF2; have HB2 := Lib.hid hb2
  clear hdid hd2 hF2 hb2 HD HF HB1
  go_wp2_with fail
  refine (at_any D 0 F2 _ _ HD2.out (by decide) (by decide)).mono ?_
  rintro e w3 ⟨g, rfl, hown, hb3⟩
  have hown : Own w3 w2.heap.size 5 (.slice (some ⟨g, 0, none⟩) 1 1) [120] := hown
  rw [show pkVal ([] ++ [awk])[0] g = .agg #[.int .i64 0, .int .i64 1, .slice (some ⟨g, 0, none⟩) 1 1] from rfl]
  obtain ⟨A1, c1, hv1, hrd1⟩ := hown.open_
  injection hv1 with e1 e2 e3
  subst e1 e3
  have HD3 := Lib.hid (HD2.out.below hb3)
  have HB3 := Lib.hid (HB2.out.trans (hb3.mono HB2.out.size))
  have hst := run_str (P := Try.prog) (w3.alloc (.cells #[.int .i64 0, .int .i64 1, .slice (some ⟨g, 0, none⟩) 1 1] 29)) _ 27 9 5 Try.underlying27 Try.underlying5 Try.underlying9 _ _ _ _ (hrd1.alloc (Nat.le_refl _) _)
  have hst : (convert 27 9 (.slice (some ⟨g, 0, none⟩) 1 1)).run Try.prog (w3.alloc (.cells #[.int .i64 0, .int .i64 1, .slice (some ⟨g, 0, none⟩) 1 1] 29)) = .ok (.string ⟨#[120]⟩) _ := hst
  clear hown hb3 hrd1 e2
  go_wp2_with fail
  refine (len_any D F2 _ _ (HD3.out.alloc _)).mono ?_
  rintro e w4 ⟨rfl, rfl⟩
  rw [show (([] ++ [awk] : List Pk).length : Int) = 1 from rfl]
  go_wp2
  go_ret
  exact ⟨rfl, HB3.out.alloc HB3.out.size _⟩

set_option maxRecDepth 100000 in
set_option maxHeartbeats 1000000 in
theorem wireNil_any (f t i : Int) (A : Option Addr) (n c : Nat) (w : World) (hi : -9223372036854775808 ≤ i) (hi2 : i ≤ 9223372036854775807) :
    Calls Try.prog 5 #[.agg #[.int .i64 f, .int .i64 t, .slice A n c], .int .i64 i] w (Yes w) := by
  go_enter Try.func5, Try.ntmps5
  go_wp2_with fail
  refine (send_nil _ f t A n c).mono ?_
  rintro e w1 ⟨rfl, hb1⟩
  have HB1 := Lib.hid (((Below.refl _ w).alloc (Nat.le_refl _) _).trans (hb1.mono (by simp)))
  clear hb1
  go_wp2_with fail
  refine (at_no none i _ (has_nil i _ hi hi2)).mono ?_
  rintro e w2 ⟨rfl, hb2⟩
  have HB2 := Lib.hid ((HB1.out.trans (hb2.mono HB1.out.size)))
  clear hb2 HB1
  go_wp2_with fail
  refine (take_no none i _ (has_nil i _ hi hi2)).mono ?_
  rintro e w3 ⟨rfl, hb3⟩
  have HB3 := Lib.hid (((HB2.out.alloc HB2.out.size _).trans (hb3.mono (by have := HB2.out.size; simp; omega))))
  clear hb3 HB2
  go_wp2_with fail
  refine (awake_any _).mono ?_
  rintro e w4 ⟨rfl, hb4⟩
  have HB4 := Lib.hid (((HB3.out.alloc HB3.out.size _).trans (hb4.mono (by have := HB3.out.size; simp; omega))))
  clear hb4 HB3
  go_wp2_with fail
  refine (len_nil _).mono ?_
  rintro e w5 ⟨rfl, rfl⟩
  go_wp2_with fail
  refine (copy_no none i _ (has_nil i _ hi hi2)).mono ?_
  rintro e w5 ⟨rfl, rfl⟩
  go_wp2
  go_ret
  exact ⟨rfl, HB4.out⟩
end Go.Proofs.Ytmhkpdfmjapdnaa
