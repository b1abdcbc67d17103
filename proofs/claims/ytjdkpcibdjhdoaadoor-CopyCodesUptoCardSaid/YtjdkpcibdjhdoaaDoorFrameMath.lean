/-
  Plain mathematics of frames: no Go in it. A frame is read as its payload; cut short it is none; with one byte of its sum or payload turned its sum isn't right.
-/
import Derived.Test.YtjdkpcibdjhdoaaDoorPackMath
namespace Go.Proofs.YtjdkpcibdjhdoaaDoor.M

def four (s : Nat) : List UInt8 := [UInt8.ofNat (s / 16777216 % 256), UInt8.ofNat (s / 65536 % 256), UInt8.ofNat (s / 256 % 256), UInt8.ofNat (s % 256)]
def at8 (l : List UInt8) (i : Nat) : Nat := (l[i]?.getD 0).toNat
def be4 (l : List UInt8) : Nat := ((at8 l 0 * 256 + at8 l 1) * 256 + at8 l 2) * 256 + at8 l 3
theorem at8_lt (l : List UInt8) (i : Nat) : at8 l i < 256 := UInt8.toNat_lt _
theorem four_len (s : Nat) : (four s).length = 4 := rfl
theorem be4_four (s : Nat) (hs : s < 4294967296) (r : List UInt8) : be4 (four s ++ r) = s := by
  simp only [be4, at8, four, List.cons_append, List.getElem?_cons_zero, List.getElem?_cons_succ, Option.getD_some]
  rw [toNat_of (Nat.mod_lt _ (by omega)), toNat_of (Nat.mod_lt _ (by omega)), toNat_of (Nat.mod_lt _ (by omega)), toNat_of (Nat.mod_lt _ (by omega))]
  omega
theorem take4 (l : List UInt8) (h : 4 ≤ l.length) : ∃ a b c d r, l = a :: b :: c :: d :: r := by
  match l, h with
  | a :: b :: c :: d :: r, _ => exact ⟨a, b, c, d, r, rfl⟩
theorem four_be4 (l : List UInt8) (h : 4 ≤ l.length) : four (be4 l) = l.take 4 := by
  obtain ⟨a, b, c, d, r, rfl⟩ := take4 l h
  have ha := a.toNat_lt; have hb := b.toNat_lt; have hc := c.toNat_lt; have hd := d.toNat_lt
  simp only [be4, at8, four, List.getElem?_cons_zero, List.getElem?_cons_succ, Option.getD_some, List.take_succ_cons, List.take_zero]
  have e1 : (((a.toNat * 256 + b.toNat) * 256 + c.toNat) * 256 + d.toNat) / 16777216 % 256 = a.toNat := by omega
  have e2 : (((a.toNat * 256 + b.toNat) * 256 + c.toNat) * 256 + d.toNat) / 65536 % 256 = b.toNat := by omega
  have e3 : (((a.toNat * 256 + b.toNat) * 256 + c.toNat) * 256 + d.toNat) / 256 % 256 = c.toNat := by omega
  have e4 : (((a.toNat * 256 + b.toNat) * 256 + c.toNat) * 256 + d.toNat) % 256 = d.toNat := by omega
  rw [e1, e2, e3, e4]
  simp
theorem be4_lt (l : List UInt8) : be4 l < 4294967296 := by
  have h0 := at8_lt l 0; have h1 := at8_lt l 1; have h2 := at8_lt l 2; have h3 := at8_lt l 3
  unfold be4; omega
theorem be4_iff (l : List UInt8) (h : 4 ≤ l.length) (s : Nat) (hs : s < 4294967296) : be4 l = s ↔ four s = l.take 4 := by
  constructor
  · rintro rfl; exact four_be4 l h
  · intro e
    have := be4_four s hs (l.drop 4)
    rwa [e, List.take_append_drop] at this

def frame (p : List UInt8) : List UInt8 := 241 :: (uv p.length ++ (four (sum p) ++ (p ++ [31])))
theorem frame_len (p : List UInt8) : (frame p).length = p.length + (uv p.length).length + 6 := by simp [frame, four_len]; omega

/-- the payload at a place, the place behind its frame, the error's number -/
def rdFrame (l : List UInt8) (k : Int) : List UInt8 × Nat × Nat :=
  if k < 0 ∨ (l.length : Int) < k then ([], 0, 1)
  else if k = l.length then ([], 0, 8)
  else if at8 l k.toNat ≠ 241 then ([], 0, 3)
  else if (rdAt l (k + 1)).2.2 ≠ 0 ∨ 65535 < (rdAt l (k + 1)).1 then ([], 0, 3)
  else if l.length ≤ (rdAt l (k + 1)).2.1 + 4 + (rdAt l (k + 1)).1 ∨ at8 l ((rdAt l (k + 1)).2.1 + 4 + (rdAt l (k + 1)).1) ≠ 31 then ([], 0, 3)
  else if sum ((l.drop ((rdAt l (k + 1)).2.1 + 4)).take (rdAt l (k + 1)).1) ≠ be4 (l.drop (rdAt l (k + 1)).2.1) then ([], 0, 5)
  else ((l.drop ((rdAt l (k + 1)).2.1 + 4)).take (rdAt l (k + 1)).1, (rdAt l (k + 1)).2.1 + 4 + (rdAt l (k + 1)).1 + 1, 0)

theorem at8_app (a r : List UInt8) (b : UInt8) : at8 (a ++ b :: r) a.length = b.toNat := by simp [at8]

/-- what stands in the form of a frame -/
theorem rdFrame_body (n : Nat) (body r : List UInt8) (hn : n ≤ 65535) (hb : body.length = n + 4) :
    rdFrame (241 :: (uv n ++ (body ++ 31 :: r))) 0 = if sum (body.drop 4) ≠ be4 body then ([], 0, 5) else (body.drop 4, (uv n).length + n + 6, 0) := by
  have hu := uv_len n
  have hr : rdAt (241 :: (uv n ++ (body ++ 31 :: r))) ((0 : Int) + 1) = (n, 1 + (uv n).length, 0) := by
    have := rdAt_uv [241] (body ++ 31 :: r) n (by omega)
    simpa using this
  have hd1 : (241 :: (uv n ++ (body ++ 31 :: r))).drop (1 + (uv n).length) = body ++ 31 :: r := by
    rw [Nat.add_comm, List.drop_succ_cons, List.drop_left]
  have hd2 : (241 :: (uv n ++ (body ++ 31 :: r))).drop (1 + (uv n).length + 4) = body.drop 4 ++ 31 :: r := by
    rw [← List.drop_drop, hd1, List.drop_append_of_le_length (by omega)]
  have ht : (body.drop 4 ++ 31 :: r).take n = body.drop 4 := by
    have : (body.drop 4).length = n := by simp; omega
    rw [← this, List.take_left]
  have h31 : at8 (241 :: (uv n ++ (body ++ 31 :: r))) (1 + (uv n).length + 4 + n) = 31 := by
    have := at8_app (241 :: (uv n ++ body)) r 31
    have e : (241 :: (uv n ++ body)).length = 1 + (uv n).length + 4 + n := by simp; omega
    rw [e] at this
    simpa using this
  have hbe : be4 (body ++ 31 :: r) = be4 body := by
    obtain ⟨a, b, c, d, q, rfl⟩ := take4 body (by omega)
    simp [be4, at8]
  unfold rdFrame
  rw [hr]
  simp only
  rw [if_neg (by simp; omega), if_neg (by simp; omega), if_neg (by simp [at8]), if_neg (by simp; omega), if_neg (by rw [h31]; simp; omega), hd1, hd2, ht, hbe]
  by_cases hs : sum (body.drop 4) ≠ be4 body
  · rw [if_pos hs, if_pos hs]
  · rw [if_neg hs, if_neg hs]
    congr 2; omega

theorem rdFrame_frame (p r : List UInt8) (hp : p.length ≤ 65535) : rdFrame (frame p ++ r) 0 = (p, (frame p).length, 0) := by
  have e : frame p ++ r = 241 :: (uv p.length ++ ((four (sum p) ++ p) ++ 31 :: r)) := by simp [frame]
  rw [e, rdFrame_body p.length (four (sum p) ++ p) r hp (by simp [four_len]; omega), if_neg]
  · have : (four (sum p) ++ p).drop 4 = p := rfl
    rw [this, frame_len]; congr 2; omega
  · have : (four (sum p) ++ p).drop 4 = p := rfl
    rw [this, be4_four _ (sum_lt p)]; simp

theorem rdFrame_torn (p : List UInt8) (hp : p.length ≤ 65535) (k : Nat) (hk : k < (frame p).length) : (rdFrame ((frame p).take k) 0).2.2 ≠ 0 := by
  intro h
  have hfl := frame_len p
  have hlen : ((frame p).take k).length = k := by simp; omega
  unfold rdFrame at h
  by_cases h1 : (0 : Int) < 0 ∨ (((frame p).take k).length : Int) < 0
  · rw [if_pos h1] at h; simp at h
  · rw [if_neg h1] at h
    by_cases h2 : (0 : Int) = ((frame p).take k).length
    · rw [if_pos h2] at h; simp at h
    · rw [if_neg h2] at h
      by_cases h3 : at8 ((frame p).take k) (0 : Int).toNat ≠ 241
      · rw [if_pos h3] at h; simp at h
      · rw [if_neg h3] at h
        by_cases h4 : (rdAt ((frame p).take k) ((0 : Int) + 1)).2.2 ≠ 0 ∨ 65535 < (rdAt ((frame p).take k) ((0 : Int) + 1)).1
        · rw [if_pos h4] at h; simp at h
        · rw [if_neg h4] at h
          have h40 : (rdAt ((frame p).take k) ((0 : Int) + 1)).2.2 = 0 := Decidable.byContradiction fun hh => h4 (.inl hh)
          obtain ⟨a, r, e1, e2, e3, e4⟩ := rdAt_ok h40
          have hmain : (rdAt ((frame p).take k) ((0 : Int) + 1)).1 = p.length := by
            generalize (rdAt ((frame p).take k) ((0 : Int) + 1)).1 = v at *
            have hf : frame p = a ++ (uv v ++ (r ++ (frame p).drop k)) := by
              rw [← List.append_assoc (uv v), ← List.append_assoc a, ← e2, List.take_append_drop]
            have hr1 := rdAt_uv a (r ++ (frame p).drop k) v e3
            rw [← hf] at hr1
            have hr2 := rdAt_uv [241] (four (sum p) ++ (p ++ [31])) p.length (by omega)
            have ha : (a.length : Int) = (1 : Nat) := by omega
            have hfe : [241] ++ (uv p.length ++ (four (sum p) ++ (p ++ [31]))) = frame p := rfl
            rw [hfe] at hr2
            have ha' : a.length = [(241 : UInt8)].length := by simp; omega
            rw [ha', hr2] at hr1
            injection hr1 with hr1 _
            exact hr1.symm
          have hal : a.length = 1 := by omega
          rw [if_pos] at h
          · simp at h
          · left
            rw [e4, hmain, hlen, hal]; omega

theorem rdFrame_turned (p r : List UInt8) (hp : p.length ≤ 65535) (j : Nat) (hj : j < p.length + 4) (b : UInt8) (hb : b.toNat ≠ at8 (four (sum p) ++ p) j)
    (sum_set : ∀ (l : List UInt8) (k : Nat), k < l.length → b.toNat ≠ (l[k]?.getD 0).toNat → sum (l.set k b) ≠ sum l) :
    rdFrame ((frame p ++ r).set (1 + (uv p.length).length + j) b) 0 = ([], 0, 5) := by
  have e : (frame p ++ r).set (1 + (uv p.length).length + j) b = 241 :: (uv p.length ++ ((four (sum p) ++ p).set j b ++ 31 :: r)) := by
    have e0 : frame p ++ r = 241 :: (uv p.length ++ ((four (sum p) ++ p) ++ 31 :: r)) := by simp [frame]
    rw [e0, show 1 + (uv p.length).length + j = ((uv p.length).length + j) + 1 from by omega, List.set_cons_succ, List.set_append_right _ _ (by omega),
      Nat.add_sub_cancel_left, List.set_append_left _ _ (by simp [four_len]; omega)]
  have hlen : ((four (sum p) ++ p).set j b).length = p.length + 4 := by simp [four_len]; omega
  rw [e, rdFrame_body p.length _ r hp hlen, if_pos]
  by_cases h4 : j < 4
  · have hd : ((four (sum p) ++ p).set j b).drop 4 = p := by rw [List.drop_set_of_lt h4]; rfl
    rw [hd]
    intro hs
    have h1 := (be4_iff _ (by omega) (sum p) (sum_lt p)).1 hs.symm
    have h2 : at8 (((four (sum p) ++ p).set j b).take 4) j = b.toNat := by
      simp only [at8, List.getElem?_take, if_pos h4]
      rw [List.getElem?_set_self (by simp [four_len]; omega)]; rfl
    have h3 : at8 (four (sum p) ++ p) j = at8 (four (sum p)) j := by
      simp only [at8]; rw [List.getElem?_append_left (by rw [four_len]; exact h4)]
    rw [← h1, ← h3] at h2
    exact hb h2.symm
  · have hd : ((four (sum p) ++ p).set j b).drop 4 = p.set (j - 4) b := by
      rw [List.set_append_right _ _ (by rw [four_len]; omega), four_len]; rfl
    have hbe : be4 ((four (sum p) ++ p).set j b) = sum p := by
      rw [List.set_append_right _ _ (by rw [four_len]; omega)]
      exact be4_four _ (sum_lt p) _
    rw [hd, hbe]
    refine sum_set p (j - 4) (by omega) ?_
    have : at8 (four (sum p) ++ p) j = (p[j - 4]?.getD 0).toNat := by
      simp only [at8]; rw [List.getElem?_append_right (by rw [four_len]; omega), four_len]
    rw [← this]; exact hb
end Go.Proofs.YtjdkpcibdjhdoaaDoor.M
