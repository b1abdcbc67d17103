/-
  What Scan finds in frames; the states, the memory and the walk of the law WalMany.
-/
import Derived.Test.YtocclaehiifabaaWalL
namespace Go.Proofs.Ytocclaehiifabaa.M
open Go.RowKit
set_option linter.unusedVariables false

theorem drop_shift (a b : List UInt8) (i : Nat) : (a ++ b).drop (a.length + i) = b.drop i := by
  rw [← List.drop_drop, List.drop_left]
theorem at8_shift (a b : List UInt8) (i : Nat) : at8 (a ++ b) (a.length + i) = at8 b i := by
  unfold at8
  rw [List.getElem?_append_right (by omega), Nat.add_sub_cancel_left]
theorem rdAt_shift (a b : List UInt8) (k : Nat) : rdAt (a ++ b) ((a.length + k : Nat) : Int) = ((rdAt b (k : Int)).1, if (rdAt b (k : Int)).2.2 = 0 then a.length + (rdAt b (k : Int)).2.1 else 0, (rdAt b (k : Int)).2.2) := by
  unfold rdAt
  by_cases h : k ≤ b.length
  · rw [if_neg (by simp; omega), if_neg (by omega)]
    rw [show ((a.length + k : Nat) : Int).toNat = a.length + k from rfl, show ((k : Nat) : Int).toNat = k from rfl, drop_shift]
    cases rd 0 0 (b.drop k) with
    | none => rfl
    | some x => obtain ⟨v, n⟩ := x; simp; omega
  · rw [if_pos (by simp; omega), if_pos (by omega)]
    rfl
theorem rdFrame_shift (a b : List UInt8) : rdFrame (a ++ b) (a.length : Int) = ((rdFrame b 0).1, if (rdFrame b 0).2.2 = 0 then a.length + (rdFrame b 0).2.1 else 0, (rdFrame b 0).2.2) := by
  have hsh := rdAt_shift a b 1
  rw [show ((a.length + 1 : Nat) : Int) = (a.length : Int) + 1 from rfl, show ((1 : Nat) : Int) = (0 : Int) + 1 from rfl] at hsh
  unfold rdFrame
  rw [hsh]
  generalize rdAt b ((0 : Int) + 1) = R
  obtain ⟨V, N, E⟩ := R
  simp only
  rw [if_neg (show ¬ ((a.length : Int) < 0 ∨ ((a ++ b).length : Int) < (a.length : Int)) by simp; omega), if_neg (show ¬ ((0 : Int) < 0 ∨ (b.length : Int) < 0) by omega)]
  by_cases hb : b.length = 0
  · rw [if_pos (show (a.length : Int) = ((a ++ b).length : Int) by simp; omega), if_pos (show (0 : Int) = (b.length : Int) by omega)]
    rfl
  rw [if_neg (show ¬ (a.length : Int) = ((a ++ b).length : Int) by rw [List.length_append]; omega), if_neg (show ¬ (0 : Int) = (b.length : Int) by omega)]
  rw [show ((a.length : Int)).toNat = a.length + 0 from rfl, at8_shift, show ((0 : Int)).toNat = 0 from rfl]
  by_cases h1 : at8 b 0 ≠ 241
  · rw [if_pos h1, if_pos h1]; rfl
  rw [if_neg h1, if_neg h1]
  by_cases h2 : E ≠ 0 ∨ 65535 < V
  · rw [if_pos h2, if_pos h2]; rfl
  rw [if_neg h2, if_neg h2]
  have hE : E = 0 := by omega
  subst hE
  simp only [if_true]
  rw [show a.length + N + 4 + V = a.length + (N + 4 + V) by omega, at8_shift, show a.length + N + 4 = a.length + (N + 4) by omega, drop_shift, drop_shift]
  by_cases h3 : b.length ≤ N + 4 + V ∨ at8 b (N + 4 + V) ≠ 31
  · rw [if_pos h3, if_pos (h3.imp (fun h => by rw [List.length_append]; omega) id)]; rfl
  rw [if_neg h3, if_neg (fun h => h3 (h.imp (fun h => by rw [List.length_append] at h; omega) id))]
  by_cases h4 : sum ((b.drop (N + 4)).take V) ≠ be4 (b.drop N)
  · rw [if_pos h4, if_pos h4]; rfl
  rw [if_neg h4, if_neg h4]
  simp only [if_true]
  rw [Nat.add_assoc]

def frames (ls : List (List UInt8)) : List UInt8 := (ls.map frame).flatten
theorem frames_cons (x : List UInt8) (ls : List (List UInt8)) : frames (x :: ls) = frame x ++ frames ls := rfl
theorem frames_snoc (x : List UInt8) (ls : List (List UInt8)) : frames (ls ++ [x]) = frames ls ++ frame x := by simp [frames]
theorem rdFrame_nil : (rdFrame [] 0).2.2 ≠ 0 := by decide

theorem scanFrom_frames : ∀ (ls : List (List UInt8)) (a r : List UInt8), (∀ x ∈ ls, x.length ≤ 65535) → (rdFrame r 0).2.2 ≠ 0 → scanFrom (a ++ (frames ls ++ r)) a.length = (ls, a.length + (frames ls).length)
  | [], a, r, _, hr => by
    have : frames [] ++ r = r := rfl
    rw [this, scanFrom_no (by rw [rdFrame_shift]; exact hr)]
    rfl
  | x :: ls, a, r, hx, hr => by
    have hfx := rdFrame_frame x (frames ls ++ r) (hx x (by simp))
    have e : a ++ (frames (x :: ls) ++ r) = a ++ (frame x ++ (frames ls ++ r)) := by rw [frames_cons, List.append_assoc]
    have hrd : rdFrame (a ++ (frames (x :: ls) ++ r)) (a.length : Int) = (x, a.length + (frame x).length, 0) := by
      rw [e, rdFrame_shift, hfx]; rfl
    rw [scanFrom_ok (by rw [hrd]), hrd]
    have ih := scanFrom_frames ls (a ++ frame x) r (fun y hy => hx y (by simp [hy])) hr
    rw [List.append_assoc, List.length_append, ← e] at ih
    simp only
    rw [ih, frames_cons, List.length_append]
    simp only
    rw [Nat.add_assoc]
/-- frames, and something behind them that is no frame -/
theorem scan_frames (ls : List (List UInt8)) (r : List UInt8) (hl : ∀ x ∈ ls, x.length ≤ 65535) (hr : (rdFrame r 0).2.2 ≠ 0) : scan (frames ls ++ r) = (ls, (frames ls).length) := by
  have := scanFrom_frames ls [] r hl hr
  rw [List.nil_append, List.length_nil, Nat.zero_add] at this
  exact this
theorem scan_all (ls : List (List UInt8)) (hl : ∀ x ∈ ls, x.length ≤ 65535) : scan (frames ls) = (ls, (frames ls).length) := by
  have := scan_frames ls [] hl rdFrame_nil
  rwa [List.append_nil] at this
end Go.Proofs.Ytocclaehiifabaa.M
namespace Go.Proofs.Ytocclaehiifabaa
open Go.RowKit Mem FM
set_option linter.unusedVariables false

def mu (fs : List (File Unit)) (o : Nat) : St := ⟨1048576, fs, o, 0, false⟩
/-- a log of records, all synced -/
def ms (ls : List (List UInt8)) : St := match ls with
  | [] => mu [] 0
  | x :: r => mu [fg (M.frames (x :: r)) (M.frames (x :: r)).length] (2 * (r.length + 1))
def mt (ls : List (List UInt8)) (x : List UInt8) : St := mu [fg (M.frames ls ++ M.frame x) (M.frames ls).length] (2 * ls.length + 1)
theorem ms_new : ms [] = St.new 1048576 := rfl
theorem ms_snoc (ls : List (List UInt8)) (x : List UInt8) : ms (ls ++ [x]) = mu [fg (M.frames ls ++ M.frame x) (M.frames ls ++ M.frame x).length] (2 * (ls.length + 1)) := by
  cases ls with
  | nil => simp [ms, M.frames]
  | cons a r =>
    show mu [fg (M.frames (a :: r ++ [x])) (M.frames (a :: r ++ [x])).length] (2 * ((r ++ [x]).length + 1)) = _
    rw [M.frames_snoc]
    simp
theorem ms_ops (ls : List (List UInt8)) : (ms ls).ops = 2 * ls.length := by cases ls <;> rfl
theorem mt_ops (ls : List (List UInt8)) (x : List UInt8) : (mt ls x).ops = 2 * ls.length + 1 := rfl
theorem ma1 (ls : List (List UInt8)) (x : List UInt8) (h : (M.frames ls).length + (M.frame x).length ≤ 1000000) : lappR (ms ls) nmLg x = (0, mt ls x) := by
  unfold lappR appended
  cases ls with
  | nil =>
    rw [show (ms []).off = false from rfl, if_pos rG]
    unfold wrote
    rw [if_neg (by show ¬ (1048576 - 0 < (M.frame x).length); omega)]
    rfl
  | cons a r =>
    rw [show (ms (a :: r)).off = false from rfl, if_pos rG]
    unfold wrote
    rw [if_neg (by show ¬ (1048576 - ((M.frames (a :: r)).length + 0) < (M.frame x).length); omega)]
    rfl
theorem ma2 (ls : List (List UInt8)) (x : List UInt8) (n : Nat) : lsyncR (mt ls x) nmLg n = (0, ms (ls ++ [x])) := by
  have h : synced (mt ls x) nmLg = (0, ms (ls ++ [x])) := by
    rw [ms_snoc]
    unfold synced
    rw [show (mt ls x).off = false from rfl, if_pos rG]
    rfl
  unfold lsyncR
  rw [h, if_neg (by simp)]
theorem ma3 (ls : List (List UInt8)) (ks : List Int) : restarted (ms ls) ks = ms ls := by
  cases ls with
  | nil => rfl
  | cons a r =>
    show mu [lostF (ks[0]?.getD 0) (fg (M.frames (a :: r)) (M.frames (a :: r)).length)] _ = _
    have h := left_le (n := (M.frames (a :: r)).length) (sure := (M.frames (a :: r)).length) (keep := ks[0]?.getD 0) (Nat.le_refl _)
    have e : left (M.frames (a :: r)).length (M.frames (a :: r)).length (ks[0]?.getD 0) = (M.frames (a :: r)).length := by omega
    have e2 : lostF (ks[0]?.getD 0) (fg (M.frames (a :: r)) (M.frames (a :: r)).length) = fg (M.frames (a :: r)) (M.frames (a :: r)).length := by
      unfold lostF
      rw [show (fg (M.frames (a :: r)) (M.frames (a :: r)).length).data = M.frames (a :: r) from rfl, show (fg (M.frames (a :: r)) (M.frames (a :: r)).length).sure = (M.frames (a :: r)).length from rfl, e, List.take_length]
      rfl
    rw [e2]
    rfl
theorem mread (ls : List (List UInt8)) : (readR (ms ls) nmLg).1 = M.frames ls ∧ ((readR (ms ls) nmLg).2 = 0 ∨ (readR (ms ls) nmLg).2 = 8) := by
  cases ls with
  | nil => exact ⟨by decide +kernel, .inr (by decide +kernel)⟩
  | cons a r =>
    have h : readR (ms (a :: r)) nmLg = (M.frames (a :: r), 0) := by
      unfold readR
      rw [show (ms (a :: r)).off = false from rfl, if_pos rG]
      rfl
    rw [h]; exact ⟨rfl, .inl rfl⟩
theorem mdrop (ls : List (List UInt8)) : droppedR (ms ls) nmLg = (0, ms ls) := by
  have h : removed (ms ls) nmLn = (8, ms ls) := by
    unfold removed
    cases ls with
    | nil => rw [show (ms []).off = false from rfl, if_pos rN]; rfl
    | cons a r => rw [show (ms (a :: r)).off = false from rfl, if_pos rN]; rfl
  unfold droppedR
  rw [nmN_lg, h, if_pos rfl]
theorem mopen (ls : List (List UInt8)) (hl : ∀ x ∈ ls, x.length ≤ 65535) : openedR (ms ls) nmLg = (0, ms ls) ∧ (M.scan (readR (ms ls) nmLg).1).1 = ls := by
  obtain ⟨h1, h2⟩ := mread ls
  have hs := M.scan_all ls hl
  refine ⟨?_, by rw [h1, hs]⟩
  unfold openedR
  rw [h1, hs, mdrop, if_neg (by omega), if_neg (by simp), if_neg (by simp)]
theorem frames_len (ls : List (List UInt8)) (hl : ∀ x ∈ ls, (M.frame x).length ≤ 300) : (M.frames ls).length ≤ 300 * ls.length := by
  induction ls with
  | nil => simp [M.frames]
  | cons a r ih =>
    have := ih (fun x hx => hl x (by simp [hx]))
    have := hl a (by simp)
    rw [M.frames_cons, List.length_append, List.length_cons]
    omega
end Go.Proofs.Ytocclaehiifabaa
namespace Go.Proofs.Ytocclaehiifabaa
open Go.RowKit Mem FM
set_option linter.unusedVariables false
set_option maxRecDepth 100000

/-- a log on a disk, and a list of the same records in memory of its own -/
def MnyF (F FL FX : Nat → Prop) (rs : List Rec) (w : World) (D G : Nat) (s : St) (v : Value) (xs : List Rec) (wr : World) : Prop :=
  DiskAt wr F D s ∧ LogAt wr FL G D nmLg rs ∧ recs rs = recs xs ∧ (∀ k, FL k → ¬ F k) ∧ (∀ k, F k → w.heap.size ≤ k) ∧ (∀ k, FL k → w.heap.size ≤ k) ∧ Below w.heap.size w wr ∧ RecsAt wr FX v xs ∧ ∀ k, FX k → w.heap.size ≤ k ∧ k < wr.heap.size ∧ ¬ F k ∧ ¬ FL k
def Mny (w : World) (D G : Nat) (s : St) (v : Value) (xs : List Rec) (wr : World) : Prop := ∃ F FL FX rs, MnyF F FL FX rs w D G s v xs wr
/-- .. the log has one record more, which lies in memory of its own -/
def MidF (F FL FX : Nat → Prop) (rs : List Rec) (w : World) (D G : Nat) (s : St) (v : Value) (xs : List Rec) (vx : Value) (x : List UInt8) (wr : World) : Prop :=
  DiskAt wr F D s ∧ LogAt wr FL G D nmLg rs ∧ recs rs = recs xs ++ [x] ∧ (∀ k, FL k → ¬ F k) ∧ (∀ k, F k → w.heap.size ≤ k) ∧ (∀ k, FL k → w.heap.size ≤ k) ∧ Below w.heap.size w wr ∧ RecsAt wr FX v xs ∧ (∀ k, FX k → w.heap.size ≤ k ∧ k < wr.heap.size ∧ ¬ F k ∧ ¬ FL k) ∧ Own wr w.heap.size 5 vx x ∧ ∀ k, vx.ownBlock = some k → ¬ F k ∧ ¬ FL k
def Mid (w : World) (D G : Nat) (s : St) (v : Value) (xs : List Rec) (vx : Value) (x : List UInt8) (wr : World) : Prop := ∃ F FL FX rs, MidF F FL FX rs w D G s v xs vx x wr

theorem mid_push {w w3 w9 : World} {D G gg cap m : Nat} {s : St} {v vx : Value} {xs : List Rec} {x : List UInt8} {o : Obj} (h : Mid w D G s v xs vx x w3) (hx : x.length ≤ 65535) (hm : xs.length = m)
    (hrow : w9.ownsRow 0 22 1 (.slice (some ⟨gg, 0, none⟩) (m + 1) cap) (m + 1) (xs.map Rec.v ++ [vx])) (hgrow : (w3.alloc o).grownBy w9 v.ownBlock) (hat : v.ownBlock = some gg ∨ gg = w3.heap.size + 1) :
    Mny w D G s (.slice (some ⟨gg, 0, none⟩) (m + 1) cap) (xs ++ [⟨vx, x⟩]) w9 := by
  subst hm
  obtain ⟨F, FL, FX, rs, h1, h2, h3, h4, h5, h6, h7, h8, h9, h10, h11⟩ := h
  have hT : Turned FX w3 w9 := ((Turned.refl FX w3).alloc o).grown hgrow (fun k hk => .inl (h8.2.1 k hk))
  have hgl : gg < w9.heap.size := (hrow.lt gg rfl).2
  have hw : w3.heap.size ≤ w9.heap.size := hT.size
  have h8' : RecsAt w3 (fun k => w.heap.size ≤ k ∧ k < w9.heap.size ∧ ¬ F k ∧ ¬ FL k) v xs := h8.more (fun k hk => by obtain ⟨b1, b2, b3, b4⟩ := h9 k hk; exact ⟨b1, by omega, b3, b4⟩)
  refine ⟨F, FL, fun k => w.heap.size ≤ k ∧ k < w9.heap.size ∧ ¬ F k ∧ ¬ FL k, rs, h1.far hT (fun k hk hx => (h9 k hx).2.2.1 hk), h2.turned hT (fun k hk hx => (h9 k hx).2.2.2 hk), ?_, h4, h5, h6, h7.trans (hT.below h7.size (fun k hk => (h9 k hk).1)), ?_, fun k hk => hk⟩
  · rw [h3]; simp [recs]
  · refine h8'.grow (r := ⟨vx, x⟩) (h10.less (Nat.zero_le _)) hx (fun k hk => ?_) (hat.imp id (fun e => ?_)) hrow hgrow
    · have := h10.lt k hk
      exact ⟨this.1, by omega, (h11 k hk).1, (h11 k hk).2⟩
    · have := h7.size
      exact ⟨by omega, hgl, fun hf => by have := h1.foot hf; omega, fun hf => by have := h2.foot hf; omega⟩

theorem mid_did {w wr w1 w2 : World} {F FL FX : Nat → Prop} {rs : List Rec} {D G : Nat} {s s' : St} {v vx : Value} {xs : List Rec} {x : List UInt8} {e : Ending} (h : MnyF F FL FX rs w D G s v xs wr) (hb : Below wr.heap.size wr w1) (hown : Own w1 wr.heap.size 5 vx x)
    (hdid : WalDid F FL D G 0 s' nmLg (recs rs ++ [x]) w1 e w2) : e = .returned (.int .i64 0) ∧ Mid w D G s' v xs vx x w2 := by
  obtain ⟨h1, h2, h3, h4, h5, h6, h7, h8, h9⟩ := h
  obtain ⟨he, F', FL', rs', a1, a2, a3, a4, a5, a6, a7⟩ := hdid
  have hs1 := hb.size; have hs2 := a5.size; have hs0 := h7.size
  have hF : ∀ k, F' k → F k ∨ w1.heap.size ≤ k := a6
  have hFL : ∀ k, FL' k → FL k ∨ w1.heap.size ≤ k := a7
  refine ⟨he, F', FL', FX, rs', a1, a2, by rw [a3, h3], a4, fun k hk => (hF k hk).elim (h5 k) (fun h => by omega), fun k hk => (hFL k hk).elim (h6 k) (fun h => by omega), ?_, ?_, fun k hk => ?_, ?_, fun k hk => ?_⟩
  · exact (h7.trans (hb.mono hs0)).trans (a5.below (by omega) (fun k hk => hk.elim (h5 k) (h6 k)))
  · exact (h8.below hb).turned a5 (fun k hk hf => hf.elim (h9 k hk).2.2.1 (h9 k hk).2.2.2)
  · obtain ⟨b1, b2, b3, b4⟩ := h9 k hk
    exact ⟨b1, by omega, fun hf => (hF k hf).elim b3 (fun h => by omega), fun hf => (hFL k hf).elim b4 (fun h => by omega)⟩
  · refine (hown.turned a5 (fun k hk hf => ?_)).less hs0
    have := (hown.lt k hk).1
    rcases hf with hf | hf
    · have := h1.foot hf; omega
    · have := h2.foot hf; omega
  · have hk2 := hown.lt k hk
    exact ⟨fun hf => (hF k hf).elim (fun hf => by have := h1.foot hf; omega) (fun h => by omega), fun hf => (hFL k hf).elim (fun hf => by have := h2.foot hf; omega) (fun h => by omega)⟩

theorem mid_sync {w w2 w3 : World} {F FL FX : Nat → Prop} {rs : List Rec} {D G : Nat} {s s' : St} {v vx : Value} {xs : List Rec} {x : List UInt8} {e : Ending} (h : MidF F FL FX rs w D G s v xs vx x w2) (hdid : Did F D 0 s' w2 e w3) : e = .returned (.int .i64 0) ∧ Mid w D G s' v xs vx x w3 := by
  obtain ⟨h1, h2, h3, h4, h5, h6, h7, h8, h9, h10, h11⟩ := h
  obtain ⟨he, F', a1, a2, a3⟩ := hdid
  have hs2 := a2.size; have hs0 := h7.size
  have hF : ∀ k, F' k → F k ∨ w2.heap.size ≤ k := a3
  refine ⟨he, F', FL, FX, rs, a1, h2.turned a2 h4, h3, fun k hk hf => (hF k hf).elim (h4 k hk) (fun h => by have := h2.foot hk; omega), fun k hk => (hF k hk).elim (h5 k) (fun h => by omega), h6, h7.trans (a2.below hs0 h5), h8.turned a2 (fun k hk => (h9 k hk).2.2.1), fun k hk => ?_, h10.turned a2 (fun k hk => (h11 k hk).1), fun k hk => ⟨fun hf => (hF k hf).elim (h11 k hk).1 (fun h => by have := (h10.lt k hk).2; omega), (h11 k hk).2⟩⟩
  obtain ⟨b1, b2, b3, b4⟩ := h9 k hk
  exact ⟨b1, by omega, fun hf => (hF k hf).elim b3 (fun h => by omega), b4⟩
end Go.Proofs.Ytocclaehiifabaa
namespace Go.Proofs.Ytocclaehiifabaa
open Go.RowKit Mem FM
set_option linter.unusedVariables false
set_option maxRecDepth 100000

theorem uv_small (n : Nat) : (M.uv n).length ≤ 10 := by have := M.uv_len n; omega

set_option maxHeartbeats 2000000 in
theorem walMany_any (n : Nat) (A1 : Option Addr) (n1 c1 : Nat) (p : List UInt8) (A2 : Option Addr) (n2 c2 : Nat) (ks : List Int) (w : World) (hn : n < 256) (h1 : Rd w w.heap.size A1 n1 c1 p) (hz1 : c1 ≤ 140737488351232)
    (h2 : RdV w w.heap.size A2 n2 c2 (ks.map (Value.int .i64))) (hks : ∀ k ∈ ks, -9223372036854775808 ≤ k ∧ k ≤ 9223372036854775807) :
    Calls Try.prog 7 #[.int .u8 n, .slice A1 n1 c1, .slice A2 n2 c2] w (fun e w' => e = .returned (.bool true) ∧ Below w.heap.size w w') := by
  obtain ⟨i0, hi, hj0, hj1, hj2⟩ := info_parts Try.infoR
  have HI := Lib.hid hi; have HZ0 := Lib.hid hj0; have HZ1 := Lib.hid hj1; have HZ2 := Lib.hid hj2
  clear hi hj0 hj1 hj2
  obtain ⟨ib, hi, hj0, hj1, hj2⟩ := info_parts Try.info_byte
  have BI := Lib.hid hi; have BZ0 := Lib.hid hj0; have BZ1 := Lib.hid hj1; have BZ2 := Lib.hid hj2
  clear hi hj0 hj1 hj2
  have hc1 := h1.cap
  have HAW := Lib.hid (fun w => awake_any w)
  have HR1 := Lib.hid h1; have HN1 := Lib.hid h1.len; have HR2 := Lib.hid h2; have HKS := Lib.hid hks
  clear h1 h2 hks
  by_cases hbig : 200 < n1
  · go_enter Try.func7, Try.ntmps7
    go_wp2_with fail
    refine (HAW.out _).mono ?_
    rintro e w1 ⟨rfl, hb1⟩
    have HB1 := Lib.hid hb1
    clear hb1
    go_wp2_with fail
    refine (HAW.out _).mono ?_
    rintro e w2 ⟨rfl, hb2⟩
    have HB2 := Lib.hid (HB1.out.trans (hb2.mono HB1.out.size))
    clear hb2
    go_wp2
    go_ret
    exact ⟨rfl, HB2.out⟩
  go_enter Try.func7, Try.ntmps7
  go_wp2_with fail
  refine (HAW.out _).mono ?_
  rintro e w1 ⟨rfl, hb1⟩
  have HB1 := Lib.hid hb1
  clear hb1
  go_wp2_with fail
  refine (new_any 1048576 w1 (by omega)).mono ?_
  rintro e w2 ⟨D, F, rfl, hd, hF, hb2⟩
  have HB2 := Lib.hid (HB1.out.trans (hb2.mono HB1.out.size))
  have HF2 := Lib.hid (show ∀ k, F k → w.heap.size ≤ k from fun k hk => Nat.le_trans HB1.out.size (hF k hk))
  obtain ⟨hop, hsc⟩ := mopen [] (by simp)
  have ho := open_ok D F (ms []) nmLg w2 hd (by decide) (by decide) (by decide) (by rw [hop])
  rw [hop, hsc] at ho
  have HO := Lib.hid ho
  clear hd hF hb2 ho hop hsc
  go_wp2_with fail
  refine HO.out.mono ?_
  rintro e w3 hopd
  obtain ⟨G, rfl, hwal⟩ := Wal.of_opened hopd HF2.out HB2.out
  obtain ⟨F3, FL3, rs3, a1, a2, a3, a4, a5, a6, a7⟩ := hwal
  have HM0 := Lib.hid (show Mny w D G (ms (recs [])) (.slice none 0 0) [] w3 from ⟨F3, FL3, fun _ => False, rs3, a1, a2, a3, a4, a5, a6, a7, RecsAt.nil, fun k hk => hk.elim⟩)
  clear hopd HO a1 a2 a3 a4 a5 a6 a7
  go_wp2
  go_loopw [11, 12] (fun o i wr => ∃ (m c9 : Nat) (A9 : Option Addr) (xs : List Rec), i = .int .i64 m ∧ o = .slice A9 m c9 ∧ m ≤ n ∧ Hid (xs.length = m) ∧ Hid (∀ x ∈ recs xs, x.length ≤ 201) ∧ Hid (Mny w D G (ms (recs xs)) (.slice A9 m c9) xs wr)) (fun _ i _ => n - (intOf i).toNat)
  case atStart => exact ⟨0, 0, none, [], rfl, rfl, Nat.zero_le _, Lib.hid rfl, Lib.hid (by simp [recs]), HM0⟩
  case round =>
    obtain ⟨m, c9, A9, xs, rfl, rfl, hm, HXL, HXS, HV⟩ := hrel
    rename World => wr
    obtain ⟨F, FL, FX, rs, hmny⟩ := HV.out
    have HMNY := Lib.hid hmny
    have HBW := Lib.hid hmny.2.2.2.2.2.2.1
    have HXX := Lib.hid (show ∀ x ∈ recs xs, x.length ≤ 65535 from fun x hx => by have := HXS.out x hx; omega)
    have hrl : (recs xs).length = m := by have := HXL.out; simpa [recs] using this
    have HRL := Lib.hid hrl
    have hwb := HBW.out.size
    by_cases hlt : m < n
    · have hm8 : m < 256 := by omega
      have hof := Own.fresh wr wr.heap.size 5 #[.int .u8 (m : Int)] [UInt8.ofNat m] (by simp [bcells, bcell]; omega) (Nat.le_refl _) (by simp)
      have HOF := Lib.hid hof
      clear hmny hof hrl
      go_wp2_with (at_builtin; go_must (refine wpList_app (wr.alloc _) rfl (.tmp 40) (.tmp 41) _ rfl wr.heap.size _ _ ib Try.underlying22 BI.out BZ0.out BZ1.out BZ2.out _ [UInt8.ofNat m] HOF.out rfl A1 n1 c1 p ((HR1.out.below HBW.out).alloc hwb _) rfl ?_ ?_ ?_))
      · have := HN1.out; simp; omega
      · simp
      intro v1 w4 hown4 hgrow4 hat4
      have hb4 := below_own HOF.out (by simp) hgrow4
      have hb4' : Below wr.heap.size wr w4 := ((Below.refl _ wr).alloc (Nat.le_refl _) _).trans (hb4.mono (by simp))
      obtain ⟨x, hxe⟩ : ∃ x, x = UInt8.ofNat m :: p := ⟨_, rfl⟩
      rw [← hxe] at hown4
      have hxl : x.length = n1 + 1 := by rw [hxe]; have := HN1.out; simp; omega
      obtain ⟨A4, c4, hv4, hr4⟩ := hown4.open_
      subst hv4
      have hfoot : ∀ j, F j → j < wr.heap.size := fun j hj => HMNY.out.1.foot hj
      have hfm : Firm F w4 A4 x.length c4 x := by
        have := own_firm (F := F) (k := x.length) hown4 (fun j hj hf => by have := (hown4.lt j hj).1; have := hfoot j hf; omega) (Nat.le_refl _)
        rwa [List.take_length] at this
      have hfr : (M.frame x).length ≤ 300 := by have := M.frame_len x; have := uv_small x.length; omega
      have hfs : (M.frames (recs xs)).length ≤ 300 * (recs xs).length := frames_len _ (fun y hy => by have := M.frame_len y; have := uv_small y.length; have := HXS.out y hy; omega)
      have hrl := HRL.out
      have hrr : rs.length = m := by have := congrArg List.length HMNY.out.2.2.1; rw [hrl] at this; simpa [recs] using this
      have hap : Calls Try.prog 15 #[.pointer (some ⟨G, 0, none⟩), .slice A4 x.length c4] w4 (WalDid F FL D G 0 (mt (recs xs) x) nmLg (recs rs ++ [x]) w4) := by
        have := lappend_any D G 0 F FL (ms (recs xs)) nmLg rs A4 x.length c4 x w4 (HMNY.out.1.below hb4') (HMNY.out.2.1.below hb4') HMNY.out.2.2.2.1 (by decide) (by rw [ms_ops, hrl]; omega) hfm (by omega) (by omega)
        rw [ma1 (recs xs) x (by omega)] at this
        exact this
      have HAP := Lib.hid hap; have HOWN4 := Lib.hid hown4; have HB4 := Lib.hid hb4'
      have HXE := Lib.hid (show x.length ≤ 201 by omega)
      rw [hxl] at HAP HOWN4 ⊢
      clear hap hown4 hgrow4 hat4 hb4 hb4' hr4 hfm hfr hfs hfoot hxe hrr HOF
      go_wp2_with fail
      refine HAP.out.mono ?_
      rintro e w5 hdid
      obtain ⟨rfl, F5, FL5, FX5, rs5, hmid⟩ := mid_did HMNY.out HB4.out HOWN4.out hdid
      have HMID := Lib.hid hmid
      have hsy : Calls Try.prog 16 #[.pointer (some ⟨G, 0, none⟩)] w5 (Did F5 D 0 (ms (recs xs ++ [x])) w5) := by
        have := lsync_any D G F5 FL5 (mt (recs xs) x) nmLg rs5 w5 hmid.1 hmid.2.1 hmid.2.2.2.1 (by decide) (by rw [mt_ops, hrl]; omega)
        rw [ma2] at this
        exact this
      have HSY := Lib.hid hsy
      clear hdid hmid hsy HAP
      go_wp2_with fail
      refine HSY.out.mono ?_
      rintro e w6 hdid
      obtain ⟨rfl, hmid6⟩ := mid_sync HMID.out hdid
      have HM6 := Lib.hid hmid6
      obtain ⟨F6, FL6, FX6, rs6, hm6⟩ := hmid6
      have HRM := Lib.hid (show w6.ownsRow 0 22 1 (.slice A9 m c9) m (xs.map Rec.v) by have := hm6.2.2.2.2.2.2.2.1.1; rwa [HXL.out] at this)
      clear hdid hm6 HSY
      go_wp2_with (at_builtin; go_must (refine wpList_append_lies _ rfl (.tmp 52) (.tmp 54) _ rfl 0 22 i0 _ 1 24 Try.underlying24 HI.out HZ0.out HZ1.out HZ2.out rfl (by omega) (.slice A9 m c9) m _ rfl (HRM.out.alloc _) ⟨w6.heap.size, 0, none⟩ 1 1 [.slice A4 (n1 + 1) c4] rfl rfl (World.news_of_block (cs := #[.slice A4 (n1 + 1) c4]) (t := 22) (fr := (0, 0)) (heap_alloc_new w6 _)) (by simp [Value.oneCell']) (by omega) (by simp only [maxLen]; omega) (by omega) (Nat.zero_le _) (w6.heap.size + 1) (by simp) ?_))
      intro g9 cap9 w9 hown9 hgrow9 hat9 hlt9
      have hrs : recs (xs ++ [(⟨.slice A4 (n1 + 1) c4, x⟩ : Rec)]) = recs xs ++ [x] := by simp [recs]
      have HV9 := Lib.hid (show Mny w D G (ms (recs (xs ++ [(⟨.slice A4 (n1 + 1) c4, x⟩ : Rec)]))) (.slice (some ⟨g9, 0, none⟩) (m + 1) cap9) (xs ++ [⟨.slice A4 (n1 + 1) c4, x⟩]) w9 by
        rw [hrs]; exact mid_push HM6.out (by have := HXE.out; omega) HXL.out hown9 hgrow9 hat9)
      have HXS9 := Lib.hid (show ∀ y ∈ recs (xs ++ [(⟨.slice A4 (n1 + 1) c4, x⟩ : Rec)]), y.length ≤ 201 by
        rw [hrs]; intro y hy; rcases List.mem_append.1 hy with hy | hy
        · exact HXS.out y hy
        · simp only [List.mem_singleton] at hy; subst hy; exact HXE.out)
      have HXL9 := Lib.hid (show (xs ++ [(⟨.slice A4 (n1 + 1) c4, x⟩ : Rec)]).length = m + 1 by rw [List.length_append, HXL.out]; rfl)
      clear hown9 hgrow9 hat9 hrs
      go_wp2
      go_roundw
      case rel => exact ⟨m + 1, cap9, _, _, rfl, rfl, by omega, HXL9, HXS9, HV9⟩
      case measure => simp [intOf]; omega
    · obtain rfl : m = n := by omega
      have hre := restart_low D w.heap.size F (ms (recs xs)) A2 n2 c2 ks wr hmny.1 (HR2.out.below HBW.out) hwb hmny.2.2.2.2.1 HKS.out
      rw [ma3] at hre
      have HRE := Lib.hid hre
      clear hre hmny hrl
      go_wp2_with fail
      refine HRE.out.mono ?_
      rintro e w5 ⟨rfl, F5, d5, t5, s5⟩
      have s5 : ∀ k, F5 k → F k ∨ wr.heap.size ≤ k := s5
      obtain ⟨b1, b2, b3, b4, b5, b6, b7, b8, b9⟩ := HMNY.out
      have hx5 := b8.turned t5 (fun k hk => (b9 k hk).2.2.1)
      obtain ⟨hop, hsc⟩ := mopen (recs xs) HXX.out
      have ho := open_ok D F5 (ms (recs xs)) nmLg w5 d5 (by decide) (by decide) (by rw [ms_ops, HRL.out]; omega) (by rw [hop])
      rw [hop, hsc] at ho
      have HO := Lib.hid ho
      have HX5 := Lib.hid hx5
      have HB5 := Lib.hid (b7.trans (t5.below b7.size b5))
      have HF5 := Lib.hid (show ∀ k, F5 k → w.heap.size ≤ k from fun k hk => (s5 k hk).elim (b5 k) (fun h => by omega))
      have HD5 := Lib.hid (show ∀ k, FX k → ¬ F5 k from fun k hk hf => (s5 k hf).elim (b9 k hk).2.2.1 (fun h => by have := (b9 k hk).2.1; omega))
      clear d5 t5 s5 b1 b2 b3 b4 b5 b6 b7 b8 b9 hx5 hop hsc ho HRE
      go_wp2_with fail
      refine HO.out.mono ?_
      rintro e w6 ⟨G6, FL6, rs6, F6, rfl, l1, l2, l3, l4, l5, l6, l7⟩
      have HX6 := Lib.hid (HX5.out.turned l6 HD5.out)
      have HB6 := Lib.hid (HB5.out.trans (l6.below HB5.out.size HF5.out))
      have hrl6 : rs6.length = m := by have := congrArg List.length l2; rw [HRL.out] at this; simpa [recs] using this
      have HAL := Lib.hid (all_any G6 D FL6 nmLg rs6 w6 l1 (by omega))
      have HL2 := Lib.hid l2
      clear l1 l2 l3 l4 l5 l6 l7 HO
      go_wp2_with fail
      refine HAL.out.mono ?_
      rintro e w8 ⟨A8, n8, c8, ls8, rfl, hr8, he8, hb8⟩
      have k8 := hr8.rdl
      rw [he8, HL2.out] at k8
      have HSA := Lib.hid (same_any A8 A9 n8 c8 m c9 _ w8 k8 (HX6.out.rdl.keep hb8))
      have HB8 := Lib.hid (HB6.out.trans (hb8.mono HB6.out.size))
      clear hr8 he8 hb8 k8 HAL
      go_wp2_with fail
      refine HSA.out.mono ?_
      rintro e w9 ⟨rfl, hb9⟩
      have HB9 := Lib.hid (HB8.out.trans (hb9.mono HB8.out.size))
      clear hb9
      go_wp2
      go_ret
      exact ⟨rfl, HB9.out⟩
end Go.Proofs.Ytocclaehiifabaa
