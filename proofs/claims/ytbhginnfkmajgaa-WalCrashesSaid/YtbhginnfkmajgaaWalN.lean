/-
  What Scan finds in frames; the states, the memory and the walk of the law WalMany.
-/
import Derived.Test.YtbhginnfkmajgaaWalL
namespace Go.Proofs.Ytbhginnfkmajgaa.M
open Go.RowKit
set_option linter.unusedVariables false

theorem drop_shift (a b : List UInt8) (i : Nat) : (a ++ b).drop (a.length + i) = b.drop i := by
  rw [← List.drop_drop, List.drop_left]
theorem at8_shift (a b : List UInt8) (i : Nat) : at8 (a ++ b) (a.length + i) = at8 b i := by
  unfold at8
  rw [List.getElem?_append_right (by omega), Nat.add_sub_cancel_left]
theorem rdAt_shift (a b : List UInt8) (k : Nat) : rdAt (a ++ b) ((a.length + k : Nat) : Int) = ((rdAt b (k : Int)).1, if (rdAt b (k : Int)).2.2 = 0 then a.length + (rdAt b (k : Int)).2.1 else 0, (rdAt b (k : Int)).2.2) := by
  unfold rdAt
  by_cases h : k ≤ b.length
  · rw [if_neg (by simp; omega), if_neg (by omega)]
    rw [show ((a.length + k : Nat) : Int).toNat = a.length + k from rfl, show ((k : Nat) : Int).toNat = k from rfl, drop_shift]
    cases rd 0 0 (b.drop k) with
    | none => rfl
    | some x => obtain ⟨v, n⟩ := x; simp; omega
  · rw [if_pos (by simp; omega), if_pos (by omega)]
    rfl
theorem rdFrame_shift (a b : List UInt8) : rdFrame (a ++ b) (a.length : Int) = ((rdFrame b 0).1, if (rdFrame b 0).2.2 = 0 then a.length + (rdFrame b 0).2.1 else 0, (rdFrame b 0).2.2) := by
  have hsh := rdAt_shift a b 1
  rw [show ((a.length + 1 : Nat) : Int) = (a.length : Int) + 1 from rfl, show ((1 : Nat) : Int) = (0 : Int) + 1 from rfl] at hsh
  unfold rdFrame
  rw [hsh]
  generalize rdAt b ((0 : Int) + 1) = R
  obtain ⟨V, N, E⟩ := R
  simp only
  rw [if_neg (show ¬ ((a.length : Int) < 0 ∨ ((a ++ b).length : Int) < (a.length : Int)) by simp; omega), if_neg (show ¬ ((0 : Int) < 0 ∨ (b.length : Int) < 0) by omega)]
  by_cases hb : b.length = 0
  · rw [if_pos (show (a.length : Int) = ((a ++ b).length : Int) by simp; omega), if_pos (show (0 : Int) = (b.length : Int) by omega)]
    rfl
  rw [if_neg (show ¬ (a.length : Int) = ((a ++ b).length : Int) by rw [List.length_append]; omega), if_neg (show ¬ (0 : Int) = (b.length : Int) by omega)]
  rw [show ((a.length : Int)).toNat = a.length + 0 from rfl, at8_shift, show ((0 : Int)).toNat = 0 from rfl]
  by_cases h1 : at8 b 0 ≠ 241
  · rw [if_pos h1, if_pos h1]; rfl
  rw [if_neg h1, if_neg h1]
  by_cases h2 : E ≠ 0 ∨ 65535 < V
  · rw [if_pos h2, if_pos h2]; rfl
  rw [if_neg h2, if_neg h2]
  have hE : E = 0 := by omega
  subst hE
  simp only [if_true]
  rw [show a.length + N + 4 + V = a.length + (N + 4 + V) by omega, at8_shift, show a.length + N + 4 = a.length + (N + 4) by omega, drop_shift, drop_shift]
  by_cases h3 : b.length ≤ N + 4 + V ∨ at8 b (N + 4 + V) ≠ 31
  · rw [if_pos h3, if_pos (h3.imp (fun h => by rw [List.length_append]; omega) id)]; rfl
  rw [if_neg h3, if_neg (fun h => h3 (h.imp (fun h => by rw [List.length_append] at h; omega) id))]
  by_cases h4 : sum ((b.drop (N + 4)).take V) ≠ be4 (b.drop N)
  · rw [if_pos h4, if_pos h4]; rfl
  rw [if_neg h4, if_neg h4]
  simp only [if_true]
  rw [Nat.add_assoc]

def frames (ls : List (List UInt8)) : List UInt8 := (ls.map frame).flatten
theorem frames_cons (x : List UInt8) (ls : List (List UInt8)) : frames (x :: ls) = frame x ++ frames ls := rfl
theorem frames_snoc (x : List UInt8) (ls : List (List UInt8)) : frames (ls ++ [x]) = frames ls ++ frame x := by simp [frames]
theorem rdFrame_nil : (rdFrame [] 0).2.2 ≠ 0 := by decide

theorem scanFrom_frames : ∀ (ls : List (List UInt8)) (a r : List UInt8), (∀ x ∈ ls, x.length ≤ 65535) → (rdFrame r 0).2.2 ≠ 0 → scanFrom (a ++ (frames ls ++ r)) a.length = (ls, a.length + (frames ls).length)
  | [], a, r, _, hr => by
    have : frames [] ++ r = r := rfl
    rw [this, scanFrom_no (by rw [rdFrame_shift]; exact hr)]
    rfl
  | x :: ls, a, r, hx, hr => by
    have hfx := rdFrame_frame x (frames ls ++ r) (hx x (by simp))
    have e : a ++ (frames (x :: ls) ++ r) = a ++ (frame x ++ (frames ls ++ r)) := by rw [frames_cons, List.append_assoc]
    have hrd : rdFrame (a ++ (frames (x :: ls) ++ r)) (a.length : Int) = (x, a.length + (frame x).length, 0) := by
      rw [e, rdFrame_shift, hfx]; rfl
    rw [scanFrom_ok (by rw [hrd]), hrd]
    have ih := scanFrom_frames ls (a ++ frame x) r (fun y hy => hx y (by simp [hy])) hr
    rw [List.append_assoc, List.length_append, ← e] at ih
    simp only
    rw [ih, frames_cons, List.length_append]
    simp only
    rw [Nat.add_assoc]
/-- frames, and something behind them that is no frame -/
theorem scan_frames (ls : List (List UInt8)) (r : List UInt8) (hl : ∀ x ∈ ls, x.length ≤ 65535) (hr : (rdFrame r 0).2.2 ≠ 0) : scan (frames ls ++ r) = (ls, (frames ls).length) := by
  have := scanFrom_frames ls [] r hl hr
  rw [List.nil_append, List.length_nil, Nat.zero_add] at this
  exact this
theorem scan_all (ls : List (List UInt8)) (hl : ∀ x ∈ ls, x.length ≤ 65535) : scan (frames ls) = (ls, (frames ls).length) := by
  have := scan_frames ls [] hl rdFrame_nil
  rwa [List.append_nil] at this
end Go.Proofs.Ytbhginnfkmajgaa.M
namespace Go.Proofs.Ytbhginnfkmajgaa
open Go.RowKit Mem FM
set_option linter.unusedVariables false

def mu (fs : List (File Unit)) (o : Nat) : St := ⟨1048576, fs, o, 0, false⟩
/-- a log of records, all synced -/
def ms (ls : List (List UInt8)) : St := match ls with
  | [] => mu [] 0
  | x :: r => mu [fg (M.frames (x :: r)) (M.frames (x :: r)).length] (2 * (r.length + 1))
def mt (ls : List (List UInt8)) (x : List UInt8) : St := mu [fg (M.frames ls ++ M.frame x) (M.frames ls).length] (2 * ls.length + 1)
theorem ms_new : ms [] = St.new 1048576 := rfl
theorem ms_snoc (ls : List (List UInt8)) (x : List UInt8) : ms (ls ++ [x]) = mu [fg (M.frames ls ++ M.frame x) (M.frames ls ++ M.frame x).length] (2 * (ls.length + 1)) := by
  cases ls with
  | nil => simp [ms, M.frames]
  | cons a r =>
    show mu [fg (M.frames (a :: r ++ [x])) (M.frames (a :: r ++ [x])).length] (2 * ((r ++ [x]).length + 1)) = _
    rw [M.frames_snoc]
    simp
theorem ms_ops (ls : List (List UInt8)) : (ms ls).ops = 2 * ls.length := by cases ls <;> rfl
theorem mt_ops (ls : List (List UInt8)) (x : List UInt8) : (mt ls x).ops = 2 * ls.length + 1 := rfl
theorem ma1 (ls : List (List UInt8)) (x : List UInt8) (h : (M.frames ls).length + (M.frame x).length ≤ 1000000) : lappR (ms ls) nmLg x = (0, mt ls x) := by
  unfold lappR appended
  cases ls with
  | nil =>
    rw [show (ms []).off = false from rfl, if_pos rG]
    unfold wrote
    rw [if_neg (by show ¬ (1048576 - 0 < (M.frame x).length); omega)]
    rfl
  | cons a r =>
    rw [show (ms (a :: r)).off = false from rfl, if_pos rG]
    unfold wrote
    rw [if_neg (by show ¬ (1048576 - ((M.frames (a :: r)).length + 0) < (M.frame x).length); omega)]
    rfl
theorem ma2 (ls : List (List UInt8)) (x : List UInt8) (n : Nat) : lsyncR (mt ls x) nmLg n = (0, ms (ls ++ [x])) := by
  have h : synced (mt ls x) nmLg = (0, ms (ls ++ [x])) := by
    rw [ms_snoc]
    unfold synced
    rw [show (mt ls x).off = false from rfl, if_pos rG]
    rfl
  unfold lsyncR
  rw [h, if_neg (by simp)]
theorem ma3 (ls : List (List UInt8)) (ks : List Int) : restarted (ms ls) ks = ms ls := by
  cases ls with
  | nil => rfl
  | cons a r =>
    show mu [lostF (ks[0]?.getD 0) (fg (M.frames (a :: r)) (M.frames (a :: r)).length)] _ = _
    have h := left_le (n := (M.frames (a :: r)).length) (sure := (M.frames (a :: r)).length) (keep := ks[0]?.getD 0) (Nat.le_refl _)
    have e : left (M.frames (a :: r)).length (M.frames (a :: r)).length (ks[0]?.getD 0) = (M.frames (a :: r)).length := by omega
    have e2 : lostF (ks[0]?.getD 0) (fg (M.frames (a :: r)) (M.frames (a :: r)).length) = fg (M.frames (a :: r)) (M.frames (a :: r)).length := by
      unfold lostF
      rw [show (fg (M.frames (a :: r)) (M.frames (a :: r)).length).data = M.frames (a :: r) from rfl, show (fg (M.frames (a :: r)) (M.frames (a :: r)).length).sure = (M.frames (a :: r)).length from rfl, e, List.take_length]
      rfl
    rw [e2]
    rfl
theorem mread (ls : List (List UInt8)) : (readR (ms ls) nmLg).1 = M.frames ls ∧ ((readR (ms ls) nmLg).2 = 0 ∨ (readR (ms ls) nmLg).2 = 8) := by
  cases ls with
  | nil => exact ⟨by decide +kernel, .inr (by decide +kernel)⟩
  | cons a r =>
    have h : readR (ms (a :: r)) nmLg = (M.frames (a :: r), 0) := by
      unfold readR
      rw [show (ms (a :: r)).off = false from rfl, if_pos rG]
      rfl
    rw [h]; exact ⟨rfl, .inl rfl⟩
theorem mdrop (ls : List (List UInt8)) : droppedR (ms ls) nmLg = (0, ms ls) := by
  have h : removed (ms ls) nmLn = (8, ms ls) := by
    unfold removed
    cases ls with
    | nil => rw [show (ms []).off = false from rfl, if_pos rN]; rfl
    | cons a r => rw [show (ms (a :: r)).off = false from rfl, if_pos rN]; rfl
  unfold droppedR
  rw [nmN_lg, h, if_pos rfl]
theorem mopen (ls : List (List UInt8)) (hl : ∀ x ∈ ls, x.length ≤ 65535) : openedR (ms ls) nmLg = (0, ms ls) ∧ (M.scan (readR (ms ls) nmLg).1).1 = ls := by
  obtain ⟨h1, h2⟩ := mread ls
  have hs := M.scan_all ls hl
  refine ⟨?_, by rw [h1, hs]⟩
  unfold openedR
  rw [h1, hs, mdrop, if_neg (by omega), if_neg (by simp), if_neg (by simp)]
theorem frames_len (ls : List (List UInt8)) (hl : ∀ x ∈ ls, (M.frame x).length ≤ 300) : (M.frames ls).length ≤ 300 * ls.length := by
  induction ls with
  | nil => simp [M.frames]
  | cons a r ih =>
    have := ih (fun x hx => hl x (by simp [hx]))
    have := hl a (by simp)
    rw [M.frames_cons, List.length_append, List.length_cons]
    omega
end Go.Proofs.Ytbhginnfkmajgaa
namespace Go.Proofs.Ytbhginnfkmajgaa
open Go.RowKit Mem FM
set_option linter.unusedVariables false
set_option maxRecDepth 100000

/-- a log on a disk, and a list of the same records in memory of its own -/
def MnyF (F FL FX : Nat → Prop) (rs : List Rec) (w : World) (D G : Nat) (s : St) (v : Value) (xs : List Rec) (wr : World) : Prop :=
  DiskAt wr F D s ∧ LogAt wr FL G D nmLg rs ∧ recs rs = recs xs ∧ (∀ k, FL k → ¬ F k) ∧ (∀ k, F k → w.heap.size ≤ k) ∧ (∀ k, FL k → w.heap.size ≤ k) ∧ Below w.heap.size w wr ∧ RecsAt wr FX v xs ∧ ∀ k, FX k → w.heap.size ≤ k ∧ k < wr.heap.size ∧ ¬ F k ∧ ¬ FL k
def Mny (w : World) (D G : Nat) (s : St) (v : Value) (xs : List Rec) (wr : World) : Prop := ∃ F FL FX rs, MnyF F FL FX rs w D G s v xs wr
/-- .. the log has one record more, which lies in memory of its own -/
def MidF (F FL FX : Nat → Prop) (rs : List Rec) (w : World) (D G : Nat) (s : St) (v : Value) (xs : List Rec) (vx : Value) (x : List UInt8) (wr : World) : Prop :=
  DiskAt wr F D s ∧ LogAt wr FL G D nmLg rs ∧ recs rs = recs xs ++ [x] ∧ (∀ k, FL k → ¬ F k) ∧ (∀ k, F k → w.heap.size ≤ k) ∧ (∀ k, FL k → w.heap.size ≤ k) ∧ Below w.heap.size w wr ∧ RecsAt wr FX v xs ∧ (∀ k, FX k → w.heap.size ≤ k ∧ k < wr.heap.size ∧ ¬ F k ∧ ¬ FL k) ∧ Own wr w.heap.size 5 vx x ∧ ∀ k, vx.ownBlock = some k → ¬ F k ∧ ¬ FL k
def Mid (w : World) (D G : Nat) (s : St) (v : Value) (xs : List Rec) (vx : Value) (x : List UInt8) (wr : World) : Prop := ∃ F FL FX rs, MidF F FL FX rs w D G s v xs vx x wr

theorem mid_push {w w3 w9 : World} {D G gg cap m : Nat} {s : St} {v vx : Value} {xs : List Rec} {x : List UInt8} {o : Obj} (h : Mid w D G s v xs vx x w3) (hx : x.length ≤ 65535) (hm : xs.length = m)
    (hrow : w9.ownsRow 0 34 1 (.slice (some ⟨gg, 0, none⟩) (m + 1) cap) (m + 1) (xs.map Rec.v ++ [vx])) (hgrow : (w3.alloc o).grownBy w9 v.ownBlock) (hat : v.ownBlock = some gg ∨ gg = w3.heap.size + 1) :
    Mny w D G s (.slice (some ⟨gg, 0, none⟩) (m + 1) cap) (xs ++ [⟨vx, x⟩]) w9 := by
  subst hm
  obtain ⟨F, FL, FX, rs, h1, h2, h3, h4, h5, h6, h7, h8, h9, h10, h11⟩ := h
  have hT : Turned FX w3 w9 := ((Turned.refl FX w3).alloc o).grown hgrow (fun k hk => .inl (h8.2.1 k hk))
  have hgl : gg < w9.heap.size := (hrow.lt gg rfl).2
  have hw : w3.heap.size ≤ w9.heap.size := hT.size
  have h8' : RecsAt w3 (fun k => w.heap.size ≤ k ∧ k < w9.heap.size ∧ ¬ F k ∧ ¬ FL k) v xs := h8.more (fun k hk => by obtain ⟨b1, b2, b3, b4⟩ := h9 k hk; exact ⟨b1, by omega, b3, b4⟩)
  refine ⟨F, FL, fun k => w.heap.size ≤ k ∧ k < w9.heap.size ∧ ¬ F k ∧ ¬ FL k, rs, h1.far hT (fun k hk hx => (h9 k hx).2.2.1 hk), h2.turned hT (fun k hk hx => (h9 k hx).2.2.2 hk), ?_, h4, h5, h6, h7.trans (hT.below h7.size (fun k hk => (h9 k hk).1)), ?_, fun k hk => hk⟩
  · rw [h3]; simp [recs]
  · refine h8'.grow (r := ⟨vx, x⟩) (h10.less (Nat.zero_le _)) hx (fun k hk => ?_) (hat.imp id (fun e => ?_)) hrow hgrow
    · have := h10.lt k hk
      exact ⟨this.1, by omega, (h11 k hk).1, (h11 k hk).2⟩
    · have := h7.size
      exact ⟨by omega, hgl, fun hf => by have := h1.foot hf; omega, fun hf => by have := h2.foot hf; omega⟩

theorem mid_did {w wr w1 w2 : World} {F FL FX : Nat → Prop} {rs : List Rec} {D G : Nat} {s s' : St} {v vx : Value} {xs : List Rec} {x : List UInt8} {e : Ending} (h : MnyF F FL FX rs w D G s v xs wr) (hb : Below wr.heap.size wr w1) (hown : Own w1 wr.heap.size 5 vx x)
    (hdid : WalDid F FL D G 0 s' nmLg (recs rs ++ [x]) w1 e w2) : e = .returned (.int .i64 0) ∧ Mid w D G s' v xs vx x w2 := by
  obtain ⟨h1, h2, h3, h4, h5, h6, h7, h8, h9⟩ := h
  obtain ⟨he, F', FL', rs', a1, a2, a3, a4, a5, a6, a7⟩ := hdid
  have hs1 := hb.size; have hs2 := a5.size; have hs0 := h7.size
  have hF : ∀ k, F' k → F k ∨ w1.heap.size ≤ k := a6
  have hFL : ∀ k, FL' k → FL k ∨ w1.heap.size ≤ k := a7
  refine ⟨he, F', FL', FX, rs', a1, a2, by rw [a3, h3], a4, fun k hk => (hF k hk).elim (h5 k) (fun h => by omega), fun k hk => (hFL k hk).elim (h6 k) (fun h => by omega), ?_, ?_, fun k hk => ?_, ?_, fun k hk => ?_⟩
  · exact (h7.trans (hb.mono hs0)).trans (a5.below (by omega) (fun k hk => hk.elim (h5 k) (h6 k)))
  · exact (h8.below hb).turned a5 (fun k hk hf => hf.elim (h9 k hk).2.2.1 (h9 k hk).2.2.2)
  · obtain ⟨b1, b2, b3, b4⟩ := h9 k hk
    exact ⟨b1, by omega, fun hf => (hF k hf).elim b3 (fun h => by omega), fun hf => (hFL k hf).elim b4 (fun h => by omega)⟩
  · refine (hown.turned a5 (fun k hk hf => ?_)).less hs0
    have := (hown.lt k hk).1
    rcases hf with hf | hf
    · have := h1.foot hf; omega
    · have := h2.foot hf; omega
  · have hk2 := hown.lt k hk
    exact ⟨fun hf => (hF k hf).elim (fun hf => by have := h1.foot hf; omega) (fun h => by omega), fun hf => (hFL k hf).elim (fun hf => by have := h2.foot hf; omega) (fun h => by omega)⟩

theorem mid_sync {w w2 w3 : World} {F FL FX : Nat → Prop} {rs : List Rec} {D G : Nat} {s s' : St} {v vx : Value} {xs : List Rec} {x : List UInt8} {e : Ending} (h : MidF F FL FX rs w D G s v xs vx x w2) (hdid : Did F D 0 s' w2 e w3) : e = .returned (.int .i64 0) ∧ Mid w D G s' v xs vx x w3 := by
  obtain ⟨h1, h2, h3, h4, h5, h6, h7, h8, h9, h10, h11⟩ := h
  obtain ⟨he, F', a1, a2, a3⟩ := hdid
  have hs2 := a2.size; have hs0 := h7.size
  have hF : ∀ k, F' k → F k ∨ w2.heap.size ≤ k := a3
  refine ⟨he, F', FL, FX, rs, a1, h2.turned a2 h4, h3, fun k hk hf => (hF k hf).elim (h4 k hk) (fun h => by have := h2.foot hk; omega), fun k hk => (hF k hk).elim (h5 k) (fun h => by omega), h6, h7.trans (a2.below hs0 h5), h8.turned a2 (fun k hk => (h9 k hk).2.2.1), fun k hk => ?_, h10.turned a2 (fun k hk => (h11 k hk).1), fun k hk => ⟨fun hf => (hF k hf).elim (h11 k hk).1 (fun h => by have := (h10.lt k hk).2; omega), (h11 k hk).2⟩⟩
  obtain ⟨b1, b2, b3, b4⟩ := h9 k hk
  exact ⟨b1, by omega, fun hf => (hF k hf).elim b3 (fun h => by omega), b4⟩
end Go.Proofs.Ytbhginnfkmajgaa
namespace Go.Proofs.Ytbhginnfkmajgaa
open Go.RowKit Mem FM
set_option linter.unusedVariables false
set_option maxRecDepth 100000

theorem uv_small (n : Nat) : (M.uv n).length ≤ 10 := by have := M.uv_len n; omega

end Go.Proofs.Ytbhginnfkmajgaa
