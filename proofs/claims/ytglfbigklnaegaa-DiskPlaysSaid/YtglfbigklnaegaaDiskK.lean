/-
  awake, the document's example, by the contracts.
-/
import Derived.Test.YtglfbigklnaegaaDiskJ
import Derived.Lib.SlBytesConst
namespace Go.Proofs.Ytglfbigklnaegaa
open Go.RowKit Mem FM

def Yes (w : World) (e : Ending) (w' : World) : Prop := e = .returned (.bool true) ∧ Below w.heap.size w w'

def nmA : ByteArray := ⟨#[97]⟩
def aw0 : St := St.new 10
def aw1 : St := (appended aw0 nmA [49, 50, 51, 52, 53]).2
def aw2 : St := (synced aw1 nmA).2
def aw3 : St := (appended aw2 nmA [54, 55, 56]).2
def aw4 : St := restarted aw3 [2]
theorem aw1_ok : (appended aw0 nmA [49, 50, 51, 52, 53]).1 = 0 := by decide
theorem aw2_ok : (synced aw1 nmA).1 = 0 := by decide
theorem aw3_ok : (appended aw2 nmA [54, 55, 56]).1 = 0 := by decide
theorem aw_ops : aw0.ops + 1 < 1099511627776 ∧ aw1.ops + 1 < 1099511627776 ∧ aw2.ops + 1 < 1099511627776 := by decide
theorem aw4_sure : ((find nmA.data.toList aw4.files).map fun f => (f.sure : Int)).getD 0 = 7 := by decide

theorem DiskAt.foot {w : World} {F : Nat → Prop} {D : Nat} {s : St} (h : DiskAt w F D s) {k : Nat} (hk : F k) : k < w.heap.size := by
  obtain ⟨_, _, _, _, _, _, _, _, _, _, _, _, h⟩ := h
  exact h k hk
/-- a slice of one value, just laid -/
theorem rdv_one (w : World) (t : TypeId) (x : Value) : RdV (w.alloc (.cells #[x] t)) (w.heap.size + 1) (some ⟨w.heap.size, 0, none⟩) 1 1 [x] :=
  ⟨rfl, Nat.le_refl _, by simp [maxLen], fun _ => ⟨w.heap.size, 0, rfl, by omega, fun j hj => by
    obtain rfl : j = 0 := by omega
    exact (cellAt (w := w.alloc (.cells #[x] t)) (g := w.heap.size) 0 (heapNew _)).trans rfl⟩⟩
/-- a step of the disk, seen from the world in which its owner began -/
theorem Did.step {F : Nat → Prop} {D : Nat} {x : Int} {s : St} {w w1 w2 : World} {e : Ending} (h : Did F D x s w1 e w2) (hF : ∀ k, F k → w.heap.size ≤ k) (hb : Below w.heap.size w w1) :
    e = .returned (.int .i64 x) ∧ ∃ F', DiskAt w2 F' D s ∧ (∀ k, F' k → w.heap.size ≤ k) ∧ Below w.heap.size w w2 := by
  obtain ⟨h1, F', h2, h3, h4⟩ := h
  exact ⟨h1, F', h2, fun k hk => (h4 k hk).elim (hF k) (fun h => Nat.le_trans hb.size h), hb.trans (h3.below hb.size hF)⟩

set_option maxRecDepth 100000 in
set_option maxHeartbeats 1000000 in
theorem awake_any (w : World) : Calls Try.prog 5 #[] w (Yes w) := by
  have kc := fun (w : World) (C : Array Value) (n c : Nat) => Lib.run_convert_bytes_const (P := Try.prog) w 32 5 C n c Try.underlying32 Try.underlying5
  obtain ⟨o1, o2, o3⟩ := aw_ops
  have O1 := Lib.hid o1; have O2 := Lib.hid o2; have O3 := Lib.hid o3
  clear o1 o2 o3
  go_enter Try.func5, Try.ntmps5
  go_wp2_with fail
  refine (new_any 10 w (by omega)).mono ?_
  rintro e w1 ⟨D, F, rfl, hd, hF, hb1⟩
  have HD := Lib.hid hd; have HF := Lib.hid hF
  clear hd hF
  go_wp2_with fail
  refine (append_any D (w1.heap.size + 1) F aw0 nmA _ 5 5 [49, 50, 51, 52, 53] _ (HD.out.alloc _) (by decide) (Rd.fresh w1 _ 5 (5, 6) [49, 50, 51, 52, 53] rfl (by decide)) (by simp) O1.out).mono ?_
  rintro e w2 hdid
  rw [aw1_ok] at hdid
  obtain ⟨rfl, F2, hd2, hF2, hb2⟩ := (hdid.from_ ((Turned.refl F w1).alloc _)).step HF.out hb1
  have HD2 := Lib.hid (show DiskAt w2 F2 D aw1 from hd2); have HF2 := Lib.hid hF2; have HB2 := Lib.hid hb2
  clear hdid hd2 hF2 hb2 HD HF hb1
  go_wp2_with fail
  refine (sync_any D F2 aw1 nmA _ HD2.out (by decide) O2.out).mono ?_
  rintro e w3 hdid
  rw [aw2_ok] at hdid
  obtain ⟨rfl, F3, hd3, hF3, hb3⟩ := hdid.step HF2.out HB2.out
  have HD3 := Lib.hid (show DiskAt w3 F3 D aw2 from hd3); have HF3 := Lib.hid hF3; have HB3 := Lib.hid hb3
  clear hdid hd3 hF3 hb3 HD2 HF2 HB2
  go_wp2_with fail
  refine (append_any D (w3.heap.size + 1) F3 aw2 nmA _ 3 3 [54, 55, 56] _ (HD3.out.alloc _) (by decide) (Rd.fresh w3 _ 5 (3, 4) [54, 55, 56] rfl (by decide)) (by simp) O3.out).mono ?_
  rintro e w4 hdid
  rw [aw3_ok] at hdid
  obtain ⟨rfl, F4, hd4, hF4, hb4⟩ := (hdid.from_ ((Turned.refl F3 w3).alloc _)).step HF3.out HB3.out
  have HD4 := Lib.hid (show DiskAt w4 F4 D aw3 from hd4); have HF4 := Lib.hid hF4; have HB4 := Lib.hid hb4
  clear hdid hd4 hF4 hb4 HD3 HF3 HB3
  go_wp2_with fail
  refine (restart_any D (w4.heap.size + 1) F4 aw3 _ 1 1 [2] _ (HD4.out.alloc _) (rdv_one w4 3 (.int .i64 2)) (by simp) (fun a ha hk => by injection ha with ha; subst ha; exact absurd (HD4.out.foot hk) (by simp)) (by simp)).mono ?_
  rintro e w5 hdid
  obtain ⟨rfl, F5, hd5, hF5, hb5⟩ := (hdid.from_ ((Turned.refl F4 w4).alloc _)).step HF4.out HB4.out
  have HD5 := Lib.hid (show DiskAt w5 F5 D aw4 from hd5); have HB5 := Lib.hid hb5
  clear hdid hd5 hF5 hb5 HD4 HF4 HB4
  go_wp2_with fail
  refine (sure_any D F5 aw4 nmA _ HD5.out (by decide)).mono ?_
  rintro e w6 ⟨rfl, rfl⟩
  rw [aw4_sure]
  go_wp2
  go_ret
  exact ⟨rfl, HB5.out⟩
end Go.Proofs.Ytglfbigklnaegaa
