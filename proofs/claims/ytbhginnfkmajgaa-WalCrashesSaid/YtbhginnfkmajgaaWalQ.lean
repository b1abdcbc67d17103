/-
  WalCrashes: the disk's states, wal's frames and Set, the law's long and beginning, its arguments, and the walk.
-/
import Derived.Test.YtbhginnfkmajgaaWalN
import Derived.Test.YtbhginnfkmajgaaWalK
import Derived.Test.YtbhginnfkmajgaaMemW
import Derived.StillTailTactics
import Derived.Test.YtbhginnfkmajgaaRows
import Derived.Test.YtbhginnfkmajgaaOpen
namespace Go.Proofs.Ytbhginnfkmajgaa.M
theorem frames_app (a b : List (List UInt8)) : frames (a ++ b) = frames a ++ frames b := by simp [frames]
theorem frames_mono (ls : List (List UInt8)) {a b : Nat} (h : a ≤ b) : (frames (ls.take a)).length ≤ (frames (ls.take b)).length := by
  have e : ls.take b = ls.take a ++ (ls.drop a).take (b - a) := by
    have := List.take_add (l := ls) (i := a) (j := b - a)
    rwa [show a + (b - a) = b by omega] at this
  rw [e, frames_app, List.length_append]; omega
/-- of frames that are cut short somewhere the whole ones stand at the front -/
theorem frames_cut : ∀ (ls : List (List UInt8)) (m : Nat), (∀ x ∈ ls, x.length ≤ 65535) → m ≤ (frames ls).length →
    ∃ t r, t ≤ ls.length ∧ (frames ls).take m = frames (ls.take t) ++ r ∧ (rdFrame r 0).2.2 ≠ 0 ∧ (t < ls.length → m < (frames (ls.take (t + 1))).length)
  | [], m, _, _ => ⟨0, [], by simp, by simp [frames], rdFrame_nil, by simp⟩
  | a :: ls, m, hl, hm => by
    by_cases h : m < (frame a).length
    · refine ⟨0, (frame a).take m, by simp, ?_, rdFrame_torn a (hl a (by simp)) m h, fun _ => ?_⟩
      · rw [frames_cons, List.take_append_of_le_length (by omega)]; simp [frames]
      · have : frames ((a :: ls).take (0 + 1)) = frame a := by simp [frames]
        rw [this]; exact h
    · obtain ⟨t, r, h1, h2, h3, h4⟩ := frames_cut ls (m - (frame a).length) (fun x hx => hl x (by simp [hx])) (by rw [frames_cons, List.length_append] at hm; omega)
      refine ⟨t + 1, r, by simp; omega, ?_, h3, fun ht => ?_⟩
      · rw [frames_cons, List.take_append, List.take_of_length_le (by omega), h2, List.take_succ_cons, frames_cons, List.append_assoc]
      · have := h4 (by simp at ht; omega)
        rw [List.take_succ_cons, frames_cons, List.length_append]
        omega
theorem scan_cut (ls : List (List UInt8)) (m : Nat) (hl : ∀ x ∈ ls, x.length ≤ 65535) (hm : m ≤ (frames ls).length) :
    ∃ t, t ≤ ls.length ∧ (scan ((frames ls).take m)).1 = ls.take t ∧ ∀ j, j ≤ ls.length → (frames (ls.take j)).length ≤ m → j ≤ t := by
  obtain ⟨t, r, h1, h2, h3, h4⟩ := frames_cut ls m hl hm
  refine ⟨t, h1, ?_, fun j hj hjm => ?_⟩
  · rw [h2, scan_frames (ls.take t) r (fun x hx => hl x (List.mem_of_mem_take hx)) h3]
  · rcases Nat.lt_or_ge t j with h | h
    · have := h4 (by omega)
      have := frames_mono ls (show t + 1 ≤ j by omega)
      omega
    · exact h
theorem frames_bound (ls : List (List UInt8)) (hl : ∀ x ∈ ls, x.length ≤ 65535) : (frames ls).length ≤ 65551 * ls.length := by
  induction ls with
  | nil => simp [frames]
  | cons a r ih =>
    have := ih (fun x hx => hl x (by simp [hx]))
    have h1 := hl a (by simp)
    have h2 := frame_len a
    have h3 := uv_len a.length
    rw [frames_cons, List.length_append, List.length_cons]
    omega
end Go.Proofs.Ytbhginnfkmajgaa.M
namespace Go.Proofs.Ytbhginnfkmajgaa
open Go.RowKit Mem FM
set_option linter.unusedVariables false

def wu (fs : List (File Unit)) (o fu : Nat) (off : Bool) : St := ⟨8388608, fs, o, fu, off⟩
/-- the log's file, if there is one; the one beside it -/
def lfO : Option (List UInt8 × Nat) → List (File Unit)
  | none => []
  | some (p, k) => [fg p k]
def fnO : Option (List UInt8 × Nat) → List (File Unit)
  | none => []
  | some (p, k) => [fn p k]
def datO (b : Option (List UInt8 × Nat)) : List UInt8 := (b.map Prod.fst).getD []
def surO (b : Option (List UInt8 × Nat)) : Nat := (b.map Prod.snd).getD 0

section
variable (b : Option (List UInt8 × Nat)) (q : List UInt8) (o fu n : Nat)
theorem q_app (h : (datO b).length + q.length ≤ 8000000) : appended (wu (lfO b) o fu false) nmLg q = (opErr fu, wu (lfO (some (datO b ++ q, surO b))) (o + 1) (fu - 1) (fu == 1)) := by
  unfold appended
  rw [show (wu (lfO b) o fu false).off = false from rfl, if_pos rG]
  unfold wrote
  cases b with
  | none => rw [if_neg (by show ¬ (8388608 - 0 < q.length); omega)]; rfl
  | some x =>
    obtain ⟨p, k⟩ := x
    rw [if_neg (by show ¬ (8388608 - (p.length + 0) < q.length); have : (datO (some (p, k))).length = p.length := rfl; omega)]
    rfl
theorem q_app_off (fs : List (File Unit)) : appended (wu fs o fu true) nmLg q = (10, wu fs o fu true) := by
  unfold appended
  rw [show ready1 nmLg (wu fs o fu true).off = 10 from (by decide : ready1 nmLg true = 10), if_neg (by decide)]
theorem q_sync (p : List UInt8) (k : Nat) : lsyncR (wu [fg p k] o fu false) nmLg n = if fu = 1 then (10, wu [fg p k] (o + 1) 0 true) else (0, wu [fg p p.length] (o + 1) (fu - 1) false) := by
  have h : synced (wu [fg p k] o fu false) nmLg = if fu = 1 then (10, wu [fg p k] (o + 1) 0 true) else (0, wu [fg p p.length] (o + 1) (fu - 1) false) := by
    unfold synced
    rw [show (wu [fg p k] o fu false).off = false from rfl, if_pos rG]
    unfold withSync
    have : find nmLg.data.toList (wu [fg p k] o fu false).files = some (fg p k) := rfl
    simp only [this]
    show (if fu = 1 then _ else _) = _
    by_cases h : fu = 1
    · subst h; rfl
    · rw [if_neg h, if_neg h]
      have hb : (fu == 1) = false := by simpa using h
      unfold St.op wu
      simp only [hb]
      rfl
  unfold lsyncR
  rw [h]
  by_cases h : fu = 1
  · rw [if_pos h, if_neg (by simp)]
  · rw [if_neg h, if_neg (by simp)]
theorem q_sync_none : lsyncR (wu [] o fu false) nmLg 0 = (0, wu [] o fu false) := by
  have h : synced (wu [] o fu false) nmLg = (8, wu [] o fu false) := by
    unfold synced
    rw [show (wu [] o fu false).off = false from rfl, if_pos rG]
    rfl
  unfold lsyncR
  rw [h, if_pos (by simp)]
theorem q_sync_off (fs : List (File Unit)) : lsyncR (wu fs o fu true) nmLg n = (10, wu fs o fu true) := by
  have h : synced (wu fs o fu true) nmLg = (10, wu fs o fu true) := by
    unfold synced
    rw [show ready1 nmLg (wu fs o fu true).off = 10 from (by decide : ready1 nmLg true = 10), if_neg (by decide)]
  unfold lsyncR
  rw [h, if_neg (by simp)]
theorem r_drop : droppedR (wu (lfO b) o fu false) nmLg = (0, wu (lfO b) o fu false) := by
  have h : removed (wu (lfO b) o fu false) nmLn = (8, wu (lfO b) o fu false) := by
    unfold removed
    rw [show (wu (lfO b) o fu false).off = false from rfl, if_pos rN]
    cases b <;> rfl
  unfold droppedR
  rw [nmN_lg, h, if_pos rfl]
theorem r_off (fs : List (File Unit)) : replacedR (wu fs o fu true) nmLg q = (10, wu fs o fu true) := by
  have h : removed (wu fs o fu true) nmLn = (10, wu fs o fu true) := by
    unfold removed
    rw [show ready1 nmLn (wu fs o fu true).off = 10 from (by decide : ready1 nmLn true = 10), if_neg (by decide)]
  have h2 : droppedR (wu fs o fu true) nmLg = (10, wu fs o fu true) := by
    unfold droppedR
    rw [nmN_lg, h, if_neg (by simp)]
  unfold replacedR
  rw [h2, if_pos (by simp)]
theorem r_put (h : (datO b).length + q.length ≤ 8000000) : putR (wu (lfO b) o fu false) nmLn q = (opErr fu, wu (lfO b ++ [fn q 0]) (o + 1) (fu - 1) (fu == 1)) := by
  unfold putR
  rw [show (wu (lfO b) o fu false).off = false from rfl, if_pos rN]
  unfold putNew
  have : find nmLn.data.toList (wu (lfO b) o fu false).files = none := by cases b <;> rfl
  simp only [this]
  unfold wrote
  cases b with
  | none => rw [if_neg (by show ¬ (8388608 - 0 < q.length); omega)]; rfl
  | some x =>
    obtain ⟨p, k⟩ := x
    rw [if_neg (by show ¬ (8388608 - (p.length + 0) < q.length); have : (datO (some (p, k))).length = p.length := rfl; omega)]
    rfl
theorem r_sync (j : Nat) : synced (wu (lfO b ++ [fn q j]) o fu false) nmLn = if fu = 1 then (10, wu (lfO b ++ [fn q j]) (o + 1) 0 true) else (0, wu (lfO b ++ [fn q q.length]) (o + 1) (fu - 1) false) := by
  unfold synced
  rw [show (wu (lfO b ++ [fn q j]) o fu false).off = false from rfl, if_pos rN]
  unfold withSync
  have : find nmLn.data.toList (wu (lfO b ++ [fn q j]) o fu false).files = some (fn q j) := by cases b <;> rfl
  simp only [this]
  show (if fu = 1 then _ else _) = _
  by_cases h : fu = 1
  · subst h; rfl
  · rw [if_neg h, if_neg h]
    have hb : (fu == 1) = false := by simpa using h
    unfold St.op wu
    simp only [hb]
    cases b <;> rfl
theorem r_ren : renamed (wu (lfO b ++ [fn q q.length]) o fu false) nmLn nmLg = if fu = 1 then (10, wu (lfO b ++ [fn q q.length]) (o + 1) 0 true) else (0, wu [fg q q.length] (o + 1) (fu - 1) false) := by
  unfold renamed
  rw [show (wu (lfO b ++ [fn q q.length]) o fu false).off = false from rfl, if_pos rNG]
  have : find nmLn.data.toList (wu (lfO b ++ [fn q q.length]) o fu false).files = some (fn q q.length) := by cases b <;> rfl
  simp only [this]
  rw [if_neg (by show ¬ q.length < q.length; omega)]
  unfold withRen
  simp only [this]
  show (if fu = 1 then _ else _) = _
  by_cases h : fu = 1
  · subst h; rfl
  · rw [if_neg h, if_neg h]
    have hb : (fu == 1) = false := by simpa using h
    unfold St.op wu
    simp only [hb]
    cases b <;> rfl
/-- a Set is done, or isn't -/
theorem r_rep (h : (datO b).length + q.length ≤ 8000000) :
    (replacedR (wu (lfO b) o fu false) nmLg q).2.ops ≤ o + 3 ∧
      ((∃ o' fu', replacedR (wu (lfO b) o fu false) nmLg q = (0, wu [fg q q.length] o' fu' false)) ∨
       ∃ c o' fu' off', replacedR (wu (lfO b) o fu false) nmLg q = (10, wu (lfO b ++ fnO c) o' fu' off')) := by
  unfold replacedR
  rw [r_drop, if_neg (by simp)]
  unfold repl2
  simp only
  rw [nmN_lg, r_put b q o fu h]
  by_cases h1 : fu = 1
  · subst h1
    rw [show opErr 1 = 10 from rfl, if_pos (by simp)]
    exact ⟨by show o + 1 ≤ o + 3; omega, .inr ⟨some (q, 0), _, _, _, rfl⟩⟩
  · have hb : (fu == 1) = false := by simpa using h1
    rw [show opErr fu = 0 by unfold opErr; rw [if_neg h1], if_neg (by simp), hb]
    unfold repl3
    simp only
    rw [nmN_lg, r_sync]
    by_cases h2 : fu - 1 = 1
    · rw [if_pos h2, if_pos (by simp)]
      exact ⟨by show o + 1 + 1 ≤ o + 3; omega, .inr ⟨some (q, 0), _, _, _, rfl⟩⟩
    · rw [if_neg h2, if_neg (by simp)]
      simp only
      rw [r_ren]
      by_cases h3 : fu - 1 - 1 = 1
      · rw [if_pos h3]
        exact ⟨by show o + 1 + 1 + 1 ≤ o + 3; omega, .inr ⟨some (q, q.length), _, _, _, rfl⟩⟩
      · rw [if_neg h3]
        exact ⟨by show o + 1 + 1 + 1 ≤ o + 3; omega, .inl ⟨_, _, rfl⟩⟩
theorem r_rep0 (h : (datO b).length + q.length ≤ 8000000) : (replacedR (wu (lfO b) o 0 false) nmLg q).1 = 0 := by
  unfold replacedR
  rw [r_drop, if_neg (by simp)]
  unfold repl2
  simp only
  rw [nmN_lg, r_put b q o 0 h, show opErr 0 = 0 from rfl, if_neg (by simp)]
  unfold repl3
  simp only
  rw [nmN_lg, show ((0 : Nat) == 1) = false from rfl, r_sync, if_neg (show ¬ (0 - 1 = 1) by omega), if_neg (by simp)]
  simp only
  rw [r_ren, if_neg (show ¬ (0 - 1 - 1 = 1) by omega)]
/-- behind a fall the log is opened -/
theorem q_open (c : Option (List UInt8 × Nat)) (h : (datO b).length ≤ 4000000) : (openedR (wu (lfO b ++ fnO c) o 0 false) nmLg).1 = 0 ∧ (readR (wu (lfO b ++ fnO c) o 0 false) nmLg).1 = datO b := by
  have hr : (readR (wu (lfO b ++ fnO c) o 0 false) nmLg).1 = datO b ∧ ((readR (wu (lfO b ++ fnO c) o 0 false) nmLg).2 = 0 ∨ (readR (wu (lfO b ++ fnO c) o 0 false) nmLg).2 = 8) := by
    unfold readR
    rw [show (wu (lfO b ++ fnO c) o 0 false).off = false from rfl, if_pos rG]
    rcases b with _ | ⟨p, k⟩ <;> rcases c with _ | ⟨p', k'⟩
    · exact ⟨rfl, .inr rfl⟩
    · exact ⟨rfl, .inr rfl⟩
    · exact ⟨rfl, .inl rfl⟩
    · exact ⟨rfl, .inl rfl⟩
  have hd : ∃ o', droppedR (wu (lfO b ++ fnO c) o 0 false) nmLg = (0, wu (lfO b) o' 0 false) := by
    rcases c with _ | ⟨p', k'⟩
    · refine ⟨o, ?_⟩
      rw [show lfO b ++ fnO none = lfO b by simp [fnO]]
      exact r_drop b o 0
    · refine ⟨o + 1, ?_⟩
      have h : removed (wu (lfO b ++ fnO (some (p', k'))) o 0 false) nmLn = (0, wu (lfO b) (o + 1) 0 false) := by
        unfold removed
        rw [show (wu (lfO b ++ fnO (some (p', k'))) o 0 false).off = false from rfl, if_pos rN]
        cases b <;> rfl
      unfold droppedR
      rw [nmN_lg, h, if_neg (by simp)]
  refine ⟨?_, hr.1⟩
  obtain ⟨o', hd⟩ := hd
  unfold openedR
  rw [hd, hr.1, if_neg (by have := hr.2; omega), if_neg (by simp)]
  split
  · exact r_rep0 b _ o' (by have := List.length_take (i := (M.scan (datO b)).2) (l := datO b); omega)
  · rfl
/-- what a fall leaves -/
theorem q_restart (c : Option (List UInt8 × Nat)) (off : Bool) (ks : List Int) (hk : surO b ≤ (datO b).length) :
    ∃ b' c' m, restarted (wu (lfO b ++ fnO c) o fu off) ks = wu (lfO b' ++ fnO c') o 0 false ∧ surO b ≤ m ∧ m ≤ (datO b).length ∧ datO b' = (datO b).take m := by
  rcases b with _ | ⟨p, k⟩
  · rcases c with _ | ⟨p', k'⟩
    · exact ⟨none, none, 0, rfl, by simp [surO], by simp, by simp [datO]⟩
    · exact ⟨none, some (p'.take (left p'.length k' (ks[0]?.getD 0)), left p'.length k' (ks[0]?.getD 0)), 0, rfl, by simp [surO], by simp, by simp [datO]⟩
  · have hl := left_le (n := p.length) (sure := k) (keep := ks[0]?.getD 0) hk
    rcases c with _ | ⟨p', k'⟩
    · exact ⟨some (p.take (left p.length k (ks[0]?.getD 0)), left p.length k (ks[0]?.getD 0)), none, left p.length k (ks[0]?.getD 0), rfl, hl.1, hl.2, rfl⟩
    · exact ⟨some (p.take (left p.length k (ks[0]?.getD 0)), left p.length k (ks[0]?.getD 0)), some (p'.take (left p'.length k' (ks[1]?.getD 0)), left p'.length k' (ks[1]?.getD 0)), left p.length k (ks[0]?.getD 0), rfl, hl.1, hl.2, rfl⟩
end
end Go.Proofs.Ytbhginnfkmajgaa
namespace Go.Proofs.Ytbhginnfkmajgaa
open Go.RowKit Mem FM
set_option linter.unusedVariables false
set_option maxRecDepth 100000

theorem RdL.at_ {w : World} {A : Option Addr} {n c i : Nat} {ls : List (List UInt8)} (h : RdL w A n c ls) (hi : i < ls.length) : ∃ g off A' n' c', A = some ⟨g, off, none⟩ ∧ w.cell? ⟨g, off + i, none⟩ = some (.slice A' n' c') ∧ Rd w w.heap.size A' n' c' ls[i] := h.2.2.2 i hi

set_option maxHeartbeats 2000000 in
theorem frames_prog (A : Option Addr) (n c : Nat) (ls : List (List UInt8)) (w : World) (h : RdL w A n c ls) (hl : ∀ x ∈ ls, x.length ≤ 65535) (hn : n ≤ 1000) :
    Calls Try.prog 26 #[.slice A n c] w (fun e w' => ∃ v, e = .returned (.tuple #[v, .int .i64 0]) ∧ Own w' w.heap.size 5 v (M.frames ls) ∧ Below w.heap.size w w') := by
  obtain ⟨i0, hi0, hz0, hz1, hz2⟩ := info_parts Try.info_byte
  have HI := Lib.hid hi0; have HZ0 := Lib.hid hz0; have HZ1 := Lib.hid hz1; have HZ2 := Lib.hid hz2
  clear hi0 hz0 hz1 hz2
  have H := Lib.hid h; have HN := Lib.hid h.1; have HL := Lib.hid hl
  have hc := h.2.1; have hcm := h.2.2.1
  have HO0 := Lib.hid (show Own w w.heap.size 5 (.slice none 0 0) (M.frames (ls.take 0)) by simpa [M.frames] using Own.nil w w.heap.size 5)
  have HB0 := Lib.hid (Below.refl w.heap.size w)
  clear h hl
  go_enter Try.func26, Try.ntmps26
  go_wp2
  go_loopw [4, 11] (fun o p wr => ∃ (i n4 c4 : Nat) (A4 : Option Addr), p = .int .i64 i ∧ o = .slice A4 n4 c4 ∧ i ≤ n ∧ Hid (Own wr w.heap.size 5 (.slice A4 n4 c4) (M.frames (ls.take i))) ∧ Hid (Below w.heap.size w wr)) (fun _ p _ => n - (intOf p).toNat)
  case atStart => exact ⟨0, 0, 0, none, rfl, rfl, Nat.zero_le _, HO0, HB0⟩
  case round =>
    obtain ⟨i, n4, c4, A4, rfl, rfl, hi, HO, HB⟩ := hrel
    rename World => wr
    by_cases hlt : i < n
    · have hix : i < ls.length := by have := HN.out; omega
      obtain ⟨g, off, A', n', c', rfl, q, hrd⟩ := (H.out.keep HB.out).at_ hix
      have hil : (i : Int) < (n : Int) := by omega
      have hxl := HL.out _ (List.getElem_mem hix)
      have hn' := hrd.len
      have hcap := hrd.cap; have hmax := hrd.max
      have HF := Lib.hid (frame_any A' n' c' wr.heap.size ls[i] wr hrd (Nat.le_refl _) (by omega))
      have hgl := World.block_lt_of_cell? wr _ q
      have HFT := Lib.hid (show M.frames (ls.take (i + 1)) = M.frames (ls.take i) ++ M.frame ls[i] by rw [List.take_succ_eq_append_getElem hix, M.frames_snoc])
      have HBD := Lib.hid (show (M.frames (ls.take i)).length + (M.frame ls[i]).length ≤ 100000000 by
        have h1 := M.frames_bound (ls.take (i + 1)) (fun x hx => HL.out x (List.mem_of_mem_take hx))
        rw [HFT.out, List.length_append, List.length_take] at h1
        have := HN.out
        omega)
      generalize ls[i] = x at *
      clear hrd hxl hn'
      go_wp2_with fail
      refine HF.out.mono ?_
      rintro e w2 ⟨v2, rfl, hO2, hb2⟩
      obtain ⟨A2, c2, rfl, hrd2⟩ := hO2.open_
      have HO4 := Lib.hid (HO.out.below hb2)
      have HRD2 := Lib.hid hrd2
      have HB2 := Lib.hid (HB.out.trans (hb2.mono HB.out.size))
      have hsz := HB2.out.size
      clear hO2 hb2 hrd2 HF
      go_wp2_with (at_builtin; go_must (refine wpList_app _ rfl (.tmp 23) (.tmp 24) _ rfl w.heap.size w2.heap.size _ i0 Try.underlying34 HI.out HZ0.out HZ1.out HZ2.out (.slice A4 n4 c4) (M.frames (ls.take i)) HO4.out rfl A2 (M.frame x).length c2 (M.frame x) HRD2.out rfl ?_ hsz ?_))
      · have := HBD.out; omega
      intro v5 w5 hO5 hg5 hat5
      obtain ⟨A5, c5, hv5, -⟩ := hO5.open_
      have HB5 := Lib.hid (HB2.out.trans (below_own HO4.out hsz hg5))
      have HO5 := Lib.hid (show Own w5 w.heap.size 5 v5 (M.frames (ls.take (i + 1))) by rw [HFT.out]; exact hO5)
      subst hv5
      clear hO5 hg5 hat5
      go_wp2
      go_roundw
      case rel => exact ⟨i + 1, _, c5, A5, by go_num, rfl, by omega, HO5, HB5⟩
      case measure => simp [intOf]; omega
    · have HE := Lib.hid (show ls.take i = ls by rw [List.take_of_length_le (by have := HN.out; omega)])
      go_wp2
      go_ret2
      have := HO.out
      rw [HE.out] at this
      exact ⟨_, rfl, this, HB.out⟩
end Go.Proofs.Ytbhginnfkmajgaa
namespace Go.Proofs.Ytbhginnfkmajgaa
open Go.RowKit Mem FM
set_option linter.unusedVariables false
set_option maxRecDepth 100000

/-- the records that are to be: the first ones of the log, and clones -/
def SetInv (w : World) (FL : Nat → Prop) (base : List (List UInt8)) (ms : List (List UInt8)) (i : Nat) (v : Value) (xs : List Rec) (wr : World) : Prop :=
  RecsAt wr (fun b => FL b ∨ w.heap.size ≤ b) v xs ∧ (∀ b, v.ownBlock = some b → w.heap.size ≤ b) ∧ recs xs = base ++ ms.take i ∧ Below w.heap.size w wr
def setLs (x : Int) (ls ns : List (List UInt8)) : List (List UInt8) := if x = 0 then ns else ls
theorem recs_v_one {w : World} {F : Nat → Prop} {v : Value} {rs : List Rec} (h : RecsAt w F v rs) : ∀ u ∈ rs.map Rec.v, u.oneCell' = true := by
  intro u hu
  obtain ⟨r, hr, rfl⟩ := List.mem_map.1 hu
  exact rec_one (h.2.2 r hr).1
theorem recs_rdv {w : World} {F : Nat → Prop} {A : Option Addr} {n c : Nat} {rs : List Rec} (h : RecsAt w F (.slice A n c) rs) : RdV w w.heap.size A n c (rs.map Rec.v) := by
  have : OwnV w 0 34 (.slice A n c) (rs.map Rec.v) := by
    unfold OwnV
    have := h.1
    rwa [← List.length_map (f := Rec.v)] at this
  exact this.rd

set_option maxHeartbeats 4000000 in
theorem set_any (D G k : Nat) (F FL : Nat → Prop) (s : St) (nm : ByteArray) (rs : List Rec) (A : Option Addr) (n c : Nat) (ms : List (List UInt8)) (w : World) (h : DiskAt w F D s) (hl : LogAt w FL G D nm rs) (hap : ∀ k, FL k → ¬ F k) (hn : nm.size ≤ 100) (hops : s.ops + 10 < 1099511627776)
    (hk : k ≤ rs.length) (hm : RdL w A n c ms) (hml : ∀ x ∈ ms, x.length ≤ 65535) (hb : rs.length + n ≤ 1000) :
    Calls Try.prog 11 #[.pointer (some ⟨G, 0, none⟩), .int .i64 (k : Int), .slice A n c] w (WalDid F FL D G (replacedR s nm (M.frames ((recs rs).take k ++ ms))).1 (replacedR s nm (M.frames ((recs rs).take k ++ ms))).2 nm (setLs (replacedR s nm (M.frames ((recs rs).take k ++ ms))).1 (recs rs) ((recs rs).take k ++ ms)) w) := by
  obtain ⟨i0, hi0, hz0, hz1, hz2⟩ := info_parts Try.infoR
  have HI := Lib.hid hi0; have HZ0 := Lib.hid hz0; have HZ1 := Lib.hid hz1; have HZ2 := Lib.hid hz2
  clear hi0 hz0 hz1 hz2
  obtain ⟨v, hlb, hG, hrec, hft⟩ := hl
  obtain ⟨Av, cv, rfl, hcv, hcvm⟩ := hrec.form
  have c2 := hlb.c2
  have HN := Lib.hid hm.1; have HM := Lib.hid hm; have HML := Lib.hid hml
  have hc := hm.2.1; have hcm := hm.2.2.1
  have HLB := Lib.hid hlb; have HGF := Lib.hid hG; have HREC := Lib.hid hrec; have HFT := Lib.hid hft; have HD := Lib.hid h; have HAP := Lib.hid hap
  have HDF := Lib.hid (show ∀ j, F j → j < w.heap.size from fun j hj => h.foot hj)
  have HSRC := Lib.hid ((recs_rdv hrec).upto hk)
  have HONE := Lib.hid (recs_v_one hrec)
  have HRPL := Lib.hid (fun (w5 : World) (A5 : Option Addr) (n5 c5 : Nat) (hd : DiskAt w5 F D s) (hl : LB w5 G D nm (.slice Av rs.length cv)) (hf : Firm F w5 A5 n5 c5 (M.frames ((recs rs).take k ++ ms))) => replace_any D G F s nm _ A5 n5 c5 (M.frames ((recs rs).take k ++ ms)) w5 hd hl (hap G hG) hn hops hf)
  generalize replacedR s nm (M.frames ((recs rs).take k ++ ms)) = rr at *
  obtain ⟨x, s'⟩ := rr
  simp only at HRPL ⊢
  obtain ⟨L, hL⟩ : ∃ L, rs.length = L := ⟨_, rfl⟩
  rw [hL] at hk hb hcv c2
  have HRL := Lib.hid hL
  clear h hm hml hlb hrec hft hap hG hL
  go_enter Try.func11, Try.ntmps11
  go_wp2_with (at_builtin; go_must (refine wpList_appV _ rfl (.tmp 26) (.tmp 32) _ rfl w.heap.size w.heap.size _ i0 _ 24 Try.underlying22 HI.out HZ0.out HZ1.out HZ2.out rfl (.slice none 0 0) [] (OwnV.nil _ _ _) rfl Av k cv ((rs.map Rec.v).take k) HSRC.out rfl (fun u hu => HONE.out u (List.mem_of_mem_take hu)) (by have := HRL.out; simp; omega) (by have := HRL.out; simp; omega) (Nat.le_refl _) ?_))
  intro v1 w1 hO1 hg1 hat1
  have hb1 : Below w.heap.size w w1 := (Below.refl _ w).grown hg1 (Nat.le_refl _) (fun k' hk' => by simp [Value.ownBlock] at hk')
  have hO1' : OwnV w1 w.heap.size 34 v1 ((rs.take k).map Rec.v) := by simpa [List.map_take] using hO1
  obtain ⟨A1, c1, hv1, -⟩ := hO1'.form
  have hlk : ((rs.take k).map Rec.v).length = k := by have := HRL.out; simp; omega
  rw [hlk] at hv1
  have HS0 := Lib.hid (show SetInv w FL ((recs rs).take k) ms 0 v1 (rs.take k) w1 by
    refine ⟨⟨?_, fun b hb => .inr (hO1'.lt b hb).1, fun r hr => ?_⟩, fun b hb => (hO1'.lt b hb).1, by simp [recs, List.map_take], hb1⟩
    · have := ownsRow_base_a hO1' (base' := 0) (Nat.zero_le _)
      rwa [List.length_map] at this
    · have h0 := HREC.out.2.2 r (List.mem_of_mem_take hr)
      exact ⟨h0.1.below hb1, fun b hb => .inl (h0.2.1 b hb), h0.2.2⟩)
  have HXK := Lib.hid (show (rs.take k).length = k by simpa using hlk)
  subst hv1
  clear hO1 hO1' hg1 hat1 hlk
  have HB1 := Lib.hid hb1
  clear hb1
  go_wp2
  go_loopw [7, 36] (fun o p wr => ∃ (i m c9 : Nat) (A9 : Option Addr) (xs : List Rec), p = .int .i64 i ∧ o = .slice A9 m c9 ∧ i ≤ n ∧ m ≤ 1000 ∧ Hid (m = k + i) ∧ Hid (xs.length = m) ∧ Hid (SetInv w FL ((recs rs).take k) ms i (.slice A9 m c9) xs wr)) (fun _ p _ => n - (intOf p).toNat)
  case atStart => exact ⟨0, k, c1, A1, rs.take k, rfl, rfl, Nat.zero_le _, by omega, Lib.hid rfl, HXK, HS0⟩
  case round =>
    obtain ⟨i, m, c9, A9, xs, rfl, rfl, hi, hmb, HMI, HXL, HV⟩ := hrel
    rename World => wr
    obtain ⟨hr9, hv9, he9, hb9⟩ := HV.out
    have HR9 := Lib.hid hr9; have HV9 := Lib.hid hv9; have HE9 := Lib.hid he9; have HB9 := Lib.hid hb9
    clear hr9 hv9 he9 hb9
    by_cases hlt : i < n
    · have hix : i < ms.length := by have := HN.out; omega
      obtain ⟨g, off, A', n', c', rfl, q, hrd⟩ := (HM.out.keep HB9.out).at_ hix
      have hil : (i : Int) < (n : Int) := by omega
      have hxl := HML.out _ (List.getElem_mem hix)
      have hn' := hrd.len
      have hcap := hrd.cap; have hmax := hrd.max
      have HCL := Lib.hid (clone_at wr.heap.size A' n' c' ms[i] wr hrd (Nat.le_refl _) (by omega))
      have HTK := Lib.hid (show ms.take (i + 1) = ms.take i ++ [ms[i]] from List.take_succ_eq_append_getElem hix)
      have HXM := Lib.hid (show ms[i].length ≤ 65535 from hxl)
      generalize ms[i] = x9 at *
      clear hrd hxl hn'
      go_wp2_with fail
      refine HCL.out.mono ?_
      rintro e w2 ⟨v2, rfl, hO2, hb2⟩
      obtain ⟨A2, c2, hv2, -⟩ := hO2.open_
      obtain ⟨n2, hn2⟩ : ∃ n2, x9.length = n2 := ⟨_, rfl⟩
      rw [hn2] at hv2
      subst hv2
      clear hn2
      have hR2 := HR9.out.below hb2
      have HRM := Lib.hid (show w2.ownsRow 0 34 1 (.slice A9 m c9) m (xs.map Rec.v) by have := hR2.1; rwa [HXL.out] at this)
      have HR2 := Lib.hid hR2; have HO2 := Lib.hid hO2; have HB2 := Lib.hid (HB9.out.trans (hb2.mono HB9.out.size))
      have hs2 := HB2.out.size
      have hsr := HB9.out.size
      clear hR2 hO2 hb2 HCL
      go_wp2_with (at_builtin; go_must (refine wpList_append_lies _ rfl (.tmp 40) (.tmp 43) _ rfl 0 34 i0 _ 1 24 Try.underlying22 HI.out HZ0.out HZ1.out HZ2.out rfl (by omega) (.slice A9 m c9) m _ rfl (HRM.out.alloc _) ⟨w2.heap.size, 0, none⟩ 1 1 [.slice A2 n2 c2] rfl rfl (World.news_of_block (cs := #[.slice A2 n2 c2]) (t := 34) (fr := (0, 0)) (heap_alloc_new w2 _)) (by simp [Value.oneCell']) (by omega) (by simp only [maxLen]; omega) (by omega) (Nat.zero_le _) (w2.heap.size + 1) (by simp) ?_))
      intro g9 cap9 w9 hown9 hgrow9 hat9 hlt9
      have HX9 := Lib.hid (show (xs ++ [(⟨.slice A2 n2 c2, x9⟩ : Rec)]).length = m + 1 by rw [List.length_append, HXL.out]; rfl)
      have hgg : w.heap.size ≤ g9 := by
        rcases hat9 with h | h
        · exact HV9.out g9 h
        · omega
      have HV2 := Lib.hid (show SetInv w FL ((recs rs).take k) ms (i + 1) (.slice (some ⟨g9, 0, none⟩) (m + 1) cap9) (xs ++ [⟨.slice A2 n2 c2, x9⟩]) w9 by
        have hm2 := HXL.out
        have hgr := HR2.out.grow (r := ⟨.slice A2 n2 c2, x9⟩) (gg := g9) (cap := cap9) (HO2.out.less (Nat.zero_le _)) HXM.out (fun b hb => .inr (Nat.le_trans hsr (HO2.out.lt b hb).1)) (.inr (.inr hgg)) (by rw [hm2]; exact hown9) hgrow9
        rw [hm2] at hgr
        refine ⟨hgr, fun b hb => ?_, ?_, ?_⟩
        · injection hb with hb
          have hb : g9 = b := hb
          omega
        · rw [show recs (xs ++ [(⟨.slice A2 n2 c2, x9⟩ : Rec)]) = recs xs ++ [x9] by simp [recs], HE9.out, HTK.out, List.append_assoc]
        · exact (HB2.out.alloc hs2 _).grown hgrow9 (by simp; omega) (fun b hb => HV9.out b hb))
      clear hown9 hgrow9 hat9 hgg
      go_wp2
      go_roundw
      case rel => exact ⟨i + 1, m + 1, cap9, _, _, by go_num, rfl, by omega, by have := HMI.out; omega, Lib.hid (by have := HMI.out; omega), HX9, HV2⟩
      case measure => simp [intOf]; omega
    · have HALL := Lib.hid (show recs xs = (recs rs).take k ++ ms by rw [HE9.out, show ms.take i = ms from List.take_of_length_le (by have := HN.out; omega)])
      have hrl := HR9.out.rdl
      rw [HALL.out] at hrl
      have HFR := Lib.hid (frames_prog A9 m c9 _ wr hrl (fun y hy => by
        rcases List.mem_append.1 hy with hy | hy
        · obtain ⟨r, hr, rfl⟩ := List.mem_map.1 (List.mem_of_mem_take hy)
          exact (HREC.out.2.2 r hr).2.2
        · exact HML.out y hy) (by omega))
      have HPP := Lib.hid (show ∀ p, p = M.frames ((recs rs).take k ++ ms) → True from fun _ _ => trivial)
      clear hrl
      go_wp2_with fail
      refine HFR.out.mono ?_
      rintro e w5 ⟨v5, rfl, hO5, hb5⟩
      obtain ⟨A5, c5, hv5, -⟩ := hO5.open_
      subst hv5
      have HB5 := Lib.hid (HB9.out.trans (hb5.mono HB9.out.size))
      have hfm : Firm F w5 A5 (M.frames ((recs rs).take k ++ ms)).length c5 (M.frames ((recs rs).take k ++ ms)) := by
        have := own_firm (F := F) (k := (M.frames ((recs rs).take k ++ ms)).length) hO5 (fun j hj hf => by have := (hO5.lt j hj).1; have := HDF.out j hf; have := HB9.out.size; omega) (Nat.le_refl _)
        rwa [List.take_length] at this
      have HLB5 := Lib.hid (show LB w5 G D nm (.slice Av rs.length cv) from (HB5.out.block G HLB.out.lt).trans HLB.out)
      have HRP := Lib.hid (HRPL.out w5 A5 _ c5 (HD.out.below HB5.out) HLB5.out hfm)
      have HR5 := Lib.hid (HR9.out.below hb5)
      obtain ⟨P, hP⟩ : ∃ P, (M.frames ((recs rs).take k ++ ms)).length = P := ⟨_, rfl⟩
      rw [hP] at HRP ⊢
      clear hO5 hb5 hfm HFR HRPL hP
      go_wp2_with fail
      refine HRP.out.mono ?_
      rintro e w6 ⟨rfl, F6, hd6, ht6, hs6⟩
      have HT6 := Lib.hid ht6
      have hnG : ¬ F G := HAP.out G HGF.out
      have HLB6 := Lib.hid (HLB5.out.turned ht6 hnG)
      have HR6 := Lib.hid (HR5.out.turned ht6 (fun b hb hf => by
        rcases hb with hb | hb
        · exact HAP.out b hb hf
        · have := HDF.out b hf; omega))
      have f2 := HLB6.out.f2
      have e2 := HLB6.out.c2
      have h05 := HB5.out.size
      have h56 := ht6.size
      have HD6 := Lib.hid hd6; have HS6 := Lib.hid hs6
      have HTW := Lib.hid (show Turned (fun k => F k ∨ FL k) w w6 from (Turned.of_below HB5.out).trans (ht6.more (fun _ _ h => .inl h)))
      have HS06 := Lib.hid (show Spread F F6 w from fun b hb => (hs6 b hb).imp id (fun h => Nat.le_trans h05 h))
      clear ht6 hs6 hd6 HRP
      by_cases hx : x = 0
      · subst hx
        have hns : ∀ b, (FL b ∨ (w.heap.size ≤ b ∧ b < w5.heap.size)) → ¬ F6 b := fun b hb hf => by
          rcases HS6.out b hf with h | h
          · rcases hb with hb | hb
            · exact HAP.out b hb h
            · have := HDF.out b h; omega
          · rcases hb with hb | hb
            · have := HFT.out b hb; omega
            · omega
        have HNS := Lib.hid hns
        have ht7 : Turned (· = G) w6 (w6.setCell ⟨G, 2, none⟩ (.slice A9 m c9)) := Turned.setCell (F := (· = G)) (p := ⟨G, 2, none⟩) (Turned.refl _ w6) (.inl rfl) _
        have HRB := Lib.hid (show RecsAt w6 (fun b => FL b ∨ (w.heap.size ≤ b ∧ b < w5.heap.size)) (.slice A9 m c9) xs from
          ⟨HR6.out.1, fun b hb => (HR5.out.2.1 b hb).imp id (fun h => ⟨h, (HR5.out.1.lt b hb).2⟩), fun r hr => ⟨(HR6.out.2.2 r hr).1, fun b hb => ((HR5.out.2.2 r hr).2.1 b hb).imp id (fun h => ⟨h, ((HR5.out.2.2 r hr).1.lt b hb).2⟩), (HR6.out.2.2 r hr).2.2⟩⟩)
        have HT7 := Lib.hid ht7
        clear hns ht7
        go_wp2
        go_ret
        have hGx : ∀ b, (∃ cur t, w6.heap[b]? = some (.cells cur t (0, 0)) ∧ t ≠ 51) → b ≠ G := by
          rintro b ⟨cur, t, hh, ht⟩ rfl
          have := hh.symm.trans HLB6.out
          injection this with this
          injection this with _ this _
          exact ht this
        refine ⟨rfl, F6, fun b => FL b ∨ (w.heap.size ≤ b ∧ b < w5.heap.size), xs, HD6.out.far HT7.out (fun b hb e => by subst e; exact HNS.out _ (.inl HGF.out) hb), ⟨.slice A9 m c9, HLB6.out.s2 _, .inl HGF.out, ?_, fun b hb => ?_⟩, ?_, HNS.out, HTW.out.trans (HT7.out.more (fun b _ e => by subst e; exact .inr HGF.out)), HS06.out, fun b hb => hb.imp id (fun h => h.1)⟩
        · refine ⟨row_turned HRB.out.1 HT7.out (fun b hb => ?_), HRB.out.2.1, fun r hr => ⟨(HRB.out.2.2 r hr).1.turned HT7.out (fun b hb => ?_), (HRB.out.2.2 r hr).2⟩⟩
          · obtain ⟨cur, hh⟩ := row_block HRB.out.1 hb
            exact hGx b ⟨cur, _, hh, by decide⟩
          · obtain ⟨cur, hh⟩ := own_heap (HRB.out.2.2 r hr).1 hb
            exact hGx b ⟨cur, _, hh, by decide⟩
        · have : b < w6.heap.size := by
            rcases hb with hb | hb
            · have := HFT.out b hb; omega
            · omega
          simpa [World.setCell] using this
        · rw [HALL.out]; rfl
      · have hq : (x == 0) = false := by simpa using hx
        have HLS := Lib.hid (show setLs x (recs rs) ((recs rs).take k ++ ms) = recs rs by unfold setLs; rw [if_neg hx])
        have HLG := Lib.hid (show LogAt w6 FL G D nm rs from ⟨.slice Av rs.length cv, HLB6.out, HGF.out, (HREC.out.below HB5.out).turned HT6.out HAP.out, fun b hb => by have := HFT.out b hb; omega⟩)
        go_wp2
        go_ret
        refine ⟨rfl, F6, FL, rs, HD6.out, HLG.out, HLS.out.symm, fun b hb hf => ?_, HTW.out, HS06.out, Spread.refl _ _⟩
        rcases HS6.out b hf with h | h
        · exact HAP.out b hb h
        · have := HFT.out b hb; omega
end Go.Proofs.Ytbhginnfkmajgaa
namespace Go.Proofs.Ytbhginnfkmajgaa
open Go.RowKit Mem FM
set_option linter.unusedVariables false
set_option maxRecDepth 100000

theorem Try.aIntCells : Try.prog.cellsOf 3 = 1 := by kernel_rfl
theorem Try.aByteCells : Try.prog.cellsOf 5 = 1 := by kernel_rfl
theorem Try.aByteBytes : Try.prog.bytesOf 5 = 1 := by kernel_rfl
theorem Try.aRowCells : Try.prog.cellsOf 34 = 1 := by kernel_rfl
theorem Try.aRowCells' : 0 < Try.prog.cellsOf 34 := by rw [Try.aRowCells]; omega
theorem Try.aRowBytes : Try.prog.bytesOf 34 = 24 := by kernel_rfl

/-- a text that is an argument's: where it lies, its bytes -/
structure Row where
  A : Option Addr
  n : Nat
  c : Nat
  l : List UInt8
instance : Inhabited Row := ⟨⟨none, 0, 0, []⟩⟩
def Row.v (r : Row) : Value := .slice r.A r.n r.c
def Row.ok (w : World) (B : Nat) (r : Row) : Prop := Rd w B r.A r.n r.c r.l
def texts (rs : List Row) : List (List UInt8) := rs.map Row.l
def RdRows (w : World) (B : Nat) (A : Option Addr) (n c : Nat) (rs : List Row) : Prop :=
  n = rs.length ∧ n ≤ c ∧ c ≤ 140737488355328 ∧ (∀ r ∈ rs, r.ok w B) ∧ (0 < n → ∃ b off, A = some ⟨b, off, none⟩ ∧ b < B ∧ ∀ i (hi : i < rs.length), w.cell? ⟨b, off + i, none⟩ = some rs[i].v)

section
variable {H : Type} {enc : TypeId × Value → H} {w : World} {base fuel : Nat} {held : Bool}
theorem open_ints_arg {r : Reach} {b0 : Nat} {v : Value} {d : DataW H} {p : List MemPlace} (hv : Value.okWide Try.prog w r b0 23 v) (h : DataW.Trod enc Try.prog w base (fun _ => true) held 23 v d p) (hw : Light Try.prog 23 d) :
    ∃ A n c, ∃ ks : List Int, v = .slice A n c ∧ RdV w w.heap.size A n c (ks.map (Value.int .i64)) ∧ ∀ k ∈ ks, -9223372036854775808 ≤ k ∧ k ≤ 9223372036854775807 := by
  obtain ⟨A0, n0, c0, rfl⟩ := Go.WideShapes.okWide_slice Try.underlying23 hv
  obtain ⟨fuel, hf⟩ := h
  exact open_i64s Try.underlying23 Try.underlying3 Try.aIntCells (v := .slice A0 n0 c0) (by simpa [Value.cells] using hf)
theorem open_rows {r : Reach} {b0 : Nat} {v : Value} {d : DataW H} {p : List MemPlace} (hv : Value.okWide Try.prog w r b0 22 v) (h : DataW.Trod enc Try.prog w base (fun _ => true) held 22 v d p) (hw : Light Try.prog 22 d) :
    ∃ A n c xs, v = .slice A n c ∧ RdRows w w.heap.size A n c xs := by
  obtain ⟨A0, n0, c0, rfl⟩ := Go.WideShapes.okWide_slice Try.underlying22 hv
  obtain ⟨fuel, hf⟩ := h
  obtain ⟨A, n, c, hcs, hl, hm, hcb, hel⟩ := open_elems Try.underlying22 Try.aRowCells' (v := .slice A0 n0 c0) (by simpa [Value.cells] using hf) hw
  injection hcs with e1 e2 e3
  subst e1 e2 e3
  have hm' : c0 ≤ 140737488355328 := by
    rw [Try.aRowBytes] at hcb
    simp only [reachBytes] at hcb
    omega
  rcases Nat.eq_zero_or_pos n0 with h0 | h0
  · subst h0
    exact ⟨A0, 0, c0, [], rfl, rfl, hl, hm', by simp, fun h => absurd h (by omega)⟩
  · obtain ⟨b, off, rfl, hb, m, hi⟩ := hel h0
    have each : ∀ i, i < n0 → ∃ x : Row, x.ok w w.heap.size ∧ w.cell? ⟨b, off + i, none⟩ = some x.v := fun i hin => by
      obtain ⟨cs, y, hlen, hat, htr, hlt⟩ := hi i hin
      rw [Try.aRowCells] at hlen hat
      match cs, hlen with
      | [u], _ =>
        obtain ⟨A, n, c, l, rfl, hr, hc⟩ := open_bytes Try.underlying34 Try.underlying5 Try.aByteCells Try.aByteBytes htr hlt
        have := hat 0 (by omega)
        rw [Nat.mul_one, Nat.add_zero] at this
        exact ⟨⟨A, n, c, l⟩, hr, this⟩
    obtain ⟨f, hfx⟩ := Go.Deep.choose_lt each
    refine ⟨_, n0, c0, (List.range n0).map f, rfl, by simp, hl, hm', fun x hx => ?_, fun _ => ⟨b, off, rfl, hb, fun i hi => ?_⟩⟩
    · obtain ⟨i, hi, rfl⟩ := List.mem_map.1 hx
      exact (hfx i (List.mem_range.1 hi)).1
    · have hin : i < n0 := by simpa using hi
      have e : ((List.range n0).map f)[i] = f i := by simp
      rw [e]
      exact (hfx i hin).2
end

section
variable {w w' : World} {B n c : Nat} {A : Option Addr} {rs : List Row}
theorem Row.ok.below {r : Row} (h : r.ok w B) (hb : Below B w w') : r.ok w' B := Rd.below h hb
theorem RdRows.below (h : RdRows w B A n c rs) (hb : Below B w w') : RdRows w' B A n c rs := by
  obtain ⟨h1, h2, h3, h4, h5⟩ := h
  refine ⟨h1, h2, h3, fun x hx => (h4 x hx).below hb, fun hn => ?_⟩
  obtain ⟨b, off, e, hb1, hc⟩ := h5 hn
  exact ⟨b, off, e, hb1, fun i hi => (hb.cell (p := ⟨b, off + i, none⟩) hb1).trans (hc i hi)⟩
theorem RdRows.rdv (h : RdRows w B A n c rs) : RdV w B A n c (rs.map Row.v) := by
  obtain ⟨h1, h2, h3, h4, h5⟩ := h
  refine ⟨by simpa using h1, h2, by simp only [maxLen]; omega, fun hn => ?_⟩
  obtain ⟨b, off, e, hb1, hc⟩ := h5 hn
  refine ⟨b, off, e, hb1, fun j hj => ?_⟩
  have hj' : j < rs.length := by omega
  rw [hc j hj', List.getElem?_map, List.getElem?_eq_getElem hj']
  rfl
theorem RdRows.rdl (h : RdRows w B A n c rs) (hB : B ≤ w.heap.size) : RdL w A n c (texts rs) := by
  obtain ⟨h1, h2, h3, h4, h5⟩ := h
  refine ⟨by simpa [texts] using h1, h2, by omega, fun i hi => ?_⟩
  have hi' : i < rs.length := by simpa [texts] using hi
  obtain ⟨b, off, e, hb1, hc⟩ := h5 (by omega)
  have e2 : (texts rs)[i] = rs[i].l := by simp [texts]
  rw [e2]
  exact ⟨b, off, _, _, _, e, hc i hi', Rd.more (h4 _ (List.getElem_mem hi')) hB⟩
/-- a list of an argument's texts, in memory of its own -/
theorem rows_rdl {base : Nat} {e : TypeId} (h : OwnV w base e (.slice A n c) (rs.map Row.v)) (hr : ∀ r ∈ rs, r.ok w w.heap.size) : RdL w A n c (texts rs) := by
  have hd := h.rd
  refine ⟨by have := hd.1; simpa [texts] using this, hd.2.1, hd.max, fun i hi => ?_⟩
  have hi' : i < rs.length := by simpa [texts] using hi
  have hn : i < n := by have := hd.1; simp at this; omega
  obtain ⟨b, off, rfl, hb, q⟩ := hd.at_ hn
  have e2 : (texts rs)[i] = rs[i].l := by simp [texts]
  rw [e2]
  rw [List.getElem?_map, List.getElem?_eq_getElem hi'] at q
  exact ⟨b, off, _, _, _, rfl, q, hr _ (List.getElem_mem hi')⟩
theorem rows_one (rs : List Row) : ∀ u ∈ rs.map Row.v, u.oneCell' = true := by
  intro u hu
  obtain ⟨r, _, rfl⟩ := List.mem_map.1 hu
  rfl
end

set_option maxHeartbeats 1000000 in
theorem long_any (A : Option Addr) (n c : Nat) (rs : List Row) (w : World) (h : RdRows w w.heap.size A n c rs) :
    Calls Try.prog 5 #[.slice A n c] w (fun e w' => e = .returned (.bool (rs.any fun r => decide (65535 < r.l.length))) ∧ w' = w) := by
  have H := Lib.hid h; have HN := Lib.hid h.1
  have hc := h.2.1; have hcm := h.2.2.1
  have HI0 := Lib.hid (show ∀ j (hj : j < rs.length), j < 0 → rs[j].l.length ≤ 65535 from fun j _ h => by omega)
  clear h
  go_enter Try.func5, Try.ntmps5
  go_wp2
  go_loop [3] (fun p => ∃ i : Nat, p = .int .i64 (i : Int) ∧ i ≤ n ∧ Hid (∀ j (hj : j < rs.length), j < i → rs[j].l.length ≤ 65535)) (fun p => n - (intOf p).toNat)
  case atStart => exact ⟨0, rfl, Nat.zero_le _, HI0⟩
  case round =>
    obtain ⟨i, rfl, hi, HI⟩ := hrel
    by_cases hlt : i < n
    · have hix : i < rs.length := by have := HN.out; omega
      obtain ⟨b, off, rfl, hb, hcell⟩ := H.out.2.2.2.2 (by omega)
      have q := hcell i hix
      have hok := H.out.2.2.2.1 rs[i] (List.getElem_mem hix)
      have hlen := Rd.len hok; have hcap := Rd.cap hok; have hmx := Rd.max hok
      have hil : (i : Int) < (n : Int) := by omega
      unfold Row.v at q
      by_cases hbig : 65535 < rs[i].l.length
      · have HE := Lib.hid (show (rs.any fun r => decide (65535 < r.l.length)) = true from List.any_eq_true.2 ⟨rs[i], List.getElem_mem hix, by simpa using hbig⟩)
        rw [← hlen] at hbig
        clear hok hlen hcell
        generalize rs[i] = r at *
        go_wp2
        go_ret
        exact ⟨by rw [HE.out]; rfl, rfl⟩
      · have HI2 := Lib.hid (show ∀ j (hj : j < rs.length), j < i + 1 → rs[j].l.length ≤ 65535 from fun j hj h => by
          by_cases e : j = i
          · subst e; omega
          · exact HI.out j hj (by omega))
        rw [← hlen] at hbig
        clear hok hlen hcell
        generalize rs[i] = r at *
        go_wp2
        go_round
        case rel => exact ⟨i + 1, by go_num, by omega, HI2⟩
        case measure => simp [intOf]; omega
    · have HE := Lib.hid (show (rs.any fun r => decide (65535 < r.l.length)) = false by
        rw [List.any_eq_false]
        intro r hr
        obtain ⟨j, hj, rfl⟩ := List.mem_iff_getElem.1 hr
        have := HI.out j hj (by have := HN.out; omega)
        simpa using this)
      go_wp2
      go_ret
      exact ⟨by rw [HE.out]; rfl, rfl⟩

set_option maxHeartbeats 1000000 in
theorem beginning_any (A1 A2 : Option Addr) (n1 c1 n2 c2 k : Nat) (ls : List (List UInt8)) (w : World) (h1 : RdL w A1 n1 c1 (ls.take n1)) (h2 : RdL w A2 n2 c2 ls) (hk : k ≤ n1) (hn : n1 ≤ n2) :
    Calls Try.prog 15 #[.slice A1 n1 c1, .slice A2 n2 c2, .int .i64 (k : Int)] w (fun e w' => e = .returned (.bool true) ∧ Below w.heap.size w w') := by
  have h3 : RdL w A2 n1 c2 (ls.take n1) := by
    refine ⟨h1.1, by have := h2.2.1; omega, h2.2.2.1, fun i hi => ?_⟩
    have hi' : i < ls.length := by rw [List.length_take] at hi; omega
    obtain ⟨g, off, A', n', c', e, q, r⟩ := h2.2.2.2 i hi'
    refine ⟨g, off, A', n', c', e, q, ?_⟩
    rw [List.getElem_take]
    exact r
  have HS := Lib.hid (same_any A1 A2 n1 c1 n1 c2 _ w h1 h3)
  have hc1 := h1.2.1; have hm1 := h1.2.2.1; have hc2 := h2.2.1; have hm2 := h2.2.2.1
  clear h1 h2 h3
  go_enter Try.func15, Try.ntmps15
  go_wp2_with fail
  refine HS.out.mono ?_
  rintro e w2 ⟨rfl, hb2⟩
  go_wp2
  go_ret
  exact ⟨rfl, hb2⟩

/-- a log on a disk, and two lists of arguments' texts beside them -/
def CrF (F FL : Nat → Prop) (rs : List Rec) (w : World) (D G : Nat) (s : St) (v : Value) (xs : List Row) (v2 : Value) (ys : List Row) (wr : World) : Prop :=
  DiskAt wr F D s ∧ LogAt wr FL G D nmLg rs ∧ (∀ k, FL k → ¬ F k) ∧ (∀ k, F k → w.heap.size ≤ k) ∧ (∀ k, FL k → w.heap.size ≤ k) ∧ Below w.heap.size w wr ∧ OwnV wr w.heap.size 34 v (xs.map Row.v) ∧ OwnV wr w.heap.size 34 v2 (ys.map Row.v) ∧
  (∀ k, v.ownBlock = some k → ¬ F k ∧ ¬ FL k) ∧ (∀ k, v2.ownBlock = some k → ¬ F k ∧ ¬ FL k) ∧ ∀ k, v.ownBlock = some k → v2.ownBlock ≠ some k
def Cr (w : World) (D G : Nat) (s : St) (ls : List (List UInt8)) (v : Value) (xs : List Row) (v2 : Value) (ys : List Row) (wr : World) : Prop := ∃ F FL rs, recs rs = ls ∧ CrF F FL rs w D G s v xs v2 ys wr

section
variable {w wr w' : World} {F FL : Nat → Prop} {rs : List Rec} {D G : Nat} {s : St} {v v2 : Value} {xs ys : List Row}
theorem ownV_turned {P : Nat → Prop} {base : Nat} {e : TypeId} {v : Value} {us : List Value} (h : OwnV wr base e v us) (ht : Turned P wr w') (hn : ∀ k, v.ownBlock = some k → ¬ P k) : OwnV w' base e v us := row_turned h ht hn
/-- behind a call of the log or the disk -/
theorem CrF.turn (h : CrF F FL rs w D G s v xs v2 ys wr) {F' FL' : Nat → Prop} {rs' : List Rec} {G' : Nat} {s' : St} (hd : DiskAt w' F' D s') (hl : LogAt w' FL' G' D nmLg rs') (hap : ∀ k, FL' k → ¬ F' k) (ht : Turned (fun k => F k ∨ FL k) wr w') (hs : Spread F F' wr) (hsl : Spread FL FL' wr) :
    CrF F' FL' rs' w D G' s' v xs v2 ys w' := by
  obtain ⟨h1, h2, h3, h4, h5, h6, h7, h8, h9, h10, h11⟩ := h
  have hw := h6.size
  refine ⟨hd, hl, hap, fun k hk => (hs k hk).elim (h4 k) (fun h => by omega), fun k hk => (hsl k hk).elim (h5 k) (fun h => by omega), h6.trans (ht.below hw (fun k hk => hk.elim (h4 k) (h5 k))), ownV_turned h7 ht (fun k hk h => h.elim (h9 k hk).1 (h9 k hk).2), ownV_turned h8 ht (fun k hk h => h.elim (h10 k hk).1 (h10 k hk).2), fun k hk => ⟨fun hf => ?_, fun hf => ?_⟩, fun k hk => ⟨fun hf => ?_, fun hf => ?_⟩, h11⟩
  · exact (hs k hf).elim (h9 k hk).1 (fun h => by have := (h7.lt k hk).2; omega)
  · exact (hsl k hf).elim (h9 k hk).2 (fun h => by have := (h7.lt k hk).2; omega)
  · exact (hs k hf).elim (h10 k hk).1 (fun h => by have := (h8.lt k hk).2; omega)
  · exact (hsl k hf).elim (h10 k hk).2 (fun h => by have := (h8.lt k hk).2; omega)
theorem CrF.did (h : CrF F FL rs w D G s v xs v2 ys wr) {x : Int} {s' : St} {ls : List (List UInt8)} {e : Ending} (hd : WalDid F FL D G x s' nmLg ls wr e w') : e = .returned (.int .i64 x) ∧ Cr w D G s' ls v xs v2 ys w' := by
  obtain ⟨h1, F', FL', rs', h2, h3, h4, h5, h6, h7, h8⟩ := hd
  exact ⟨h1, F', FL', rs', h4, h.turn h2 h3 h5 h6 h7 h8⟩
theorem CrF.disk (h : CrF F FL rs w D G s v xs v2 ys wr) {x : Int} {s' : St} {e : Ending} (hd : Did F D x s' wr e w') : e = .returned (.int .i64 x) ∧ Cr w D G s' (recs rs) v xs v2 ys w' := by
  obtain ⟨h1, F', h2, h3, h4⟩ := hd
  refine ⟨h1, F', FL, rs, rfl, h.turn h2 (h.2.1.turned h3 h.2.2.1) (fun k hk hf => ?_) (h3.more (fun _ _ h => .inl h)) h4 (Spread.refl _ _)⟩
  exact (h4 k hf).elim (h.2.2.1 k hk) (fun h0 => by have := h.2.1.foot hk; omega)
theorem CrF.opened (h : CrF F FL rs w D G s v xs v2 ys wr) {s' : St} {ls : List (List UInt8)} {e : Ending} (hd : Opened F D s' nmLg ls wr e w') : ∃ G', e = .returned (.tuple #[.pointer (some ⟨G', 0, none⟩), .int .i64 0]) ∧ Cr w D G' s' ls v xs v2 ys w' := by
  obtain ⟨G', FL', rs', F', h1, h2, h3, h4, h5, h6, h7, h8⟩ := hd
  exact ⟨G', h1, F', FL', rs', h3, h.turn h4 h2 h6 (h7.more (fun _ _ h => .inl h)) h8 (fun k hk => .inr (h5 k hk))⟩
theorem CrF.below (h : CrF F FL rs w D G s v xs v2 ys wr) (hb : Below wr.heap.size wr w') : CrF F FL rs w D G s v xs v2 ys w' :=
  h.turn (h.1.below hb) (h.2.1.below hb) h.2.2.1 (Turned.of_below hb) (Spread.refl _ _) (Spread.refl _ _)
/-- the first list has grown -/
theorem CrF.push (h : CrF F FL rs w D G s v xs v2 ys wr) {o : Obj} {v9 : Value} {zs : List Row} (hO : OwnV w' w.heap.size 34 v9 (xs.map Row.v ++ zs.map Row.v)) (hg : (wr.alloc o).grownBy w' v.ownBlock) (hat : v9.ownBlock = v.ownBlock ∨ v9.ownBlock = some (wr.heap.size + 1)) :
    CrF F FL rs w D G s v9 (xs ++ zs) v2 ys w' := by
  obtain ⟨h1, h2, h3, h4, h5, h6, h7, h8, h9, h10, h11⟩ := h
  have hT : Turned (fun k => v.ownBlock = some k) wr w' := ((Turned.refl _ wr).alloc o).grown hg (fun k hk => .inl hk)
  have hnew : ∀ k, v9.ownBlock = some k → v.ownBlock = some k ∨ wr.heap.size ≤ k := fun k hk => by
    rcases hat with h | h
    · exact .inl (h ▸ hk)
    · right; rw [h] at hk; injection hk with hk; omega
  refine ⟨h1.far hT (fun k hk hv => (h9 k hv).1 hk), h2.turned hT (fun k hk hv => (h9 k hv).2 hk), h3, h4, h5, h6.trans (hT.below h6.size (fun k hk => (h7.lt k hk).1)), by rw [List.map_append]; exact hO, ownV_turned h8 hT (fun k hk hv => h11 k hv hk), fun k hk => ?_, h10, fun k hk hv => ?_⟩
  · rcases hnew k hk with h | h
    · exact h9 k h
    · exact ⟨fun hf => by have := h1.foot hf; omega, fun hf => by have := h2.foot hf; omega⟩
  · rcases hnew k hk with h | h
    · exact h11 k h hv
    · have := (h8.lt k hv).2; omega
/-- the second list has grown -/
theorem CrF.push2 (h : CrF F FL rs w D G s v xs v2 ys wr) {v9 : Value} {zs : List Row} (hO : OwnV w' w.heap.size 34 v9 (ys.map Row.v ++ zs.map Row.v)) (hg : wr.grownBy w' v2.ownBlock) (hat : v9.ownBlock = v2.ownBlock ∨ v9.ownBlock = some wr.heap.size) :
    CrF F FL rs w D G s v xs v9 (ys ++ zs) w' := by
  obtain ⟨h1, h2, h3, h4, h5, h6, h7, h8, h9, h10, h11⟩ := h
  have hT : Turned (fun k => v2.ownBlock = some k) wr w' := (Turned.refl _ wr).grown hg (fun k hk => .inl hk)
  have hnew : ∀ k, v9.ownBlock = some k → v2.ownBlock = some k ∨ wr.heap.size ≤ k := fun k hk => by
    rcases hat with h | h
    · exact .inl (h ▸ hk)
    · right; rw [h] at hk; injection hk with hk; omega
  refine ⟨h1.far hT (fun k hk hv => (h10 k hv).1 hk), h2.turned hT (fun k hk hv => (h10 k hv).2 hk), h3, h4, h5, h6.trans (hT.below h6.size (fun k hk => (h8.lt k hk).1)), ownV_turned h7 hT (fun k hk hv => h11 k hk hv), by rw [List.map_append]; exact hO, h9, fun k hk => ?_, fun k hk hv => ?_⟩
  · rcases hnew k hk with h | h
    · exact h10 k h
    · exact ⟨fun hf => by have := h1.foot hf; omega, fun hf => by have := h2.foot hf; omega⟩
  · rcases hnew k hv with h | h
    · exact h11 k hk h
    · have := (h7.lt k hk).2; omega
end
end Go.Proofs.Ytbhginnfkmajgaa
namespace Go.Proofs.Ytbhginnfkmajgaa
open Go.RowKit Mem FM
set_option linter.unusedVariables false

/-- the log's file ahead of the first Sync, the records ls being in it -/
def bA (ls : List (List UInt8)) : Option (List UInt8 × Nat) := match ls with
  | [] => none
  | x :: r => some (M.frames (x :: r), 0)
theorem bA_dat (ls : List (List UInt8)) : datO (bA ls) = M.frames ls := by cases ls <;> rfl
theorem bA_sur (ls : List (List UInt8)) : surO (bA ls) = 0 := by cases ls <;> rfl
theorem bA_snoc (ls : List (List UInt8)) (x : List UInt8) : bA (ls ++ [x]) = some (M.frames ls ++ M.frame x, 0) := by
  cases ls with
  | nil => simp [bA, M.frames]
  | cons a r =>
    show some (M.frames (a :: r ++ [x]), 0) = _
    rw [M.frames_snoc]
theorem u_app (ls : List (List UInt8)) (x : List UInt8) (o : Nat) (h : (M.frames ls).length + (M.frame x).length ≤ 8000000) : lappR (wu (lfO (bA ls)) o 0 false) nmLg x = (0, wu (lfO (bA (ls ++ [x]))) (o + 1) 0 false) := by
  unfold lappR
  rw [q_app (bA ls) (M.frame x) o 0 (by rw [bA_dat]; exact h), bA_dat, bA_sur, bA_snoc]
  rfl
/-- .. behind it -/
def bS (ls : List (List UInt8)) : Option (List UInt8 × Nat) := match ls with
  | [] => none
  | x :: r => some (M.frames (x :: r), (M.frames (x :: r)).length)
theorem bS_dat (ls : List (List UInt8)) : datO (bS ls) = M.frames ls := by cases ls <;> rfl
theorem bS_sur (ls : List (List UInt8)) : surO (bS ls) = (M.frames ls).length := by cases ls <;> rfl
theorem u_sync (ls : List (List UInt8)) (o : Nat) : ∃ o', o' ≤ o + 1 ∧ lsyncR (wu (lfO (bA ls)) o 0 false) nmLg ls.length = (0, wu (lfO (bS ls)) o' 0 false) := by
  cases ls with
  | nil => exact ⟨o, by omega, q_sync_none o 0⟩
  | cons a r => exact ⟨o + 1, by omega, q_sync o 0 _ (M.frames (a :: r)) 0⟩

/-- in the midst of the second records: those that are in the file, those that the log has; off or not -/
structure Amid (fl al : List (List UInt8)) (i : Nat) (b : Option (List UInt8 × Nat)) (off : Bool) (ls : List (List UInt8)) (k : Nat) : Prop where
  /-- of all records the first j are in the file; k of them are durable -/
  file : ∃ j, fl.length ≤ j ∧ j ≤ fl.length + i ∧ k ≤ j ∧ datO b = M.frames (al.take j) ∧ (off = false → j = fl.length + i)
  log : ∃ r, fl.length ≤ r ∧ r ≤ fl.length + i ∧ ls = al.take r ∧ (off = false → r = fl.length + i)
  sure : (M.frames (al.take k)).length = surO b
theorem frames_nil {ls : List (List UInt8)} (h : M.frames ls = []) : ls = [] := by
  cases ls with
  | nil => rfl
  | cons a r =>
    rw [M.frames_cons] at h
    have := congrArg List.length h
    rw [List.length_append, M.frame_len] at this
    simp at this
theorem amid_start (fl sl : List (List UInt8)) : Amid fl (fl ++ sl) 0 (bS fl) false fl fl.length where
  file := ⟨fl.length, Nat.le_refl _, by omega, Nat.le_refl _, by rw [bS_dat]; simp, fun _ => rfl⟩
  log := ⟨fl.length, Nat.le_refl _, by omega, by simp, fun _ => rfl⟩
  sure := by rw [bS_sur]; simp
section
variable {fl al : List (List UInt8)} {i k o fu : Nat} {b : Option (List UInt8 × Nat)} {off : Bool} {ls : List (List UInt8)}
/-- one more of the second records, or none: the power is off -/
theorem amid_app (h : Amid fl al i b off ls k) (x : List UInt8) (hx : al[fl.length + i]? = some x) (hb : (M.frames al).length ≤ 4000000) :
    ∃ b' off' o' fu', o' ≤ o + 1 ∧ (lappR (wu (lfO b) o fu off) nmLg x).2 = wu (lfO b') o' fu' off' ∧ Amid fl al (i + 1) b' off' (lappLs ls (lappR (wu (lfO b) o fu off) nmLg x).1 x) k := by
  obtain ⟨⟨j, j1, j2, j3, j4, j5⟩, ⟨r, r1, r2, r3, r4⟩, hs⟩ := h
  cases off with
  | true =>
    refine ⟨b, true, o, fu, by omega, ?_, ?_⟩
    · unfold lappR; rw [q_app_off]
    · unfold lappR
      rw [q_app_off]
      refine ⟨⟨j, j1, by omega, j3, j4, by simp⟩, ⟨r, r1, by omega, ?_, by simp⟩, hs⟩
      unfold lappLs
      rw [if_neg (by simp)]
      exact r3
  | false =>
    have hj := j5 rfl
    have hr := r4 rfl
    subst hj hr
    obtain ⟨hlt, hxe⟩ := List.getElem?_eq_some_iff.1 hx
    have ht : al.take (fl.length + i + 1) = al.take (fl.length + i) ++ [x] := by rw [List.take_succ_eq_append_getElem hlt, hxe]
    have hlen : (datO b).length + (M.frame x).length ≤ 8000000 := by
      have h1 := M.frames_mono al (show fl.length + i + 1 ≤ al.length by omega)
      rw [List.take_length, ht, M.frames_snoc, List.length_append, ← j4] at h1
      omega
    have he : lappR (wu (lfO b) o fu false) nmLg x = (opErr fu, wu (lfO (some (datO b ++ M.frame x, surO b))) (o + 1) (fu - 1) (fu == 1)) := q_app b (M.frame x) o fu hlen
    refine ⟨some (datO b ++ M.frame x, surO b), fu == 1, o + 1, fu - 1, Nat.le_refl _, by rw [he], ?_⟩
    rw [he]
    refine ⟨⟨fl.length + i + 1, by omega, by omega, by omega, ?_, fun _ => by omega⟩, ?_, hs⟩
    · show datO b ++ M.frame x = _
      rw [ht, M.frames_snoc, ← j4]
    · by_cases h1 : fu = 1
      · subst h1
        refine ⟨fl.length + i, by omega, by omega, ?_, by simp⟩
        unfold lappLs
        rw [if_neg (show ¬ opErr 1 = 0 by decide)]
        exact r3
      · refine ⟨fl.length + i + 1, by omega, by omega, ?_, fun _ => by omega⟩
        unfold lappLs opErr
        rw [if_neg h1, if_pos rfl, ht, r3]
theorem amid_le (h : Amid fl al i b off ls k) : surO b ≤ (datO b).length := by
  obtain ⟨⟨j, j1, j2, j3, j4, j5⟩, _, hs⟩ := h
  rw [← hs, j4]
  exact M.frames_mono al j3
/-- the second Sync: done, then all are durable; or not -/
theorem amid_sync (h : Amid fl al i b off ls k) (hi : fl.length + i = al.length) (hk : surO b ≤ (datO b).length) :
    ∃ b' off' o' fu' k', o' ≤ o + 1 ∧ (lsyncR (wu (lfO b) o fu off) nmLg ls.length).2 = wu (lfO b') o' fu' off' ∧ Amid fl al i b' off' ls k' ∧ surO b' ≤ (datO b').length ∧ (((lsyncR (wu (lfO b) o fu off) nmLg ls.length).1 = 0 ∧ k' = al.length) ∨ ((lsyncR (wu (lfO b) o fu off) nmLg ls.length).1 ≠ 0 ∧ k' = k)) := by
  obtain ⟨⟨j, j1, j2, j3, j4, j5⟩, ⟨r, r1, r2, r3, r4⟩, hs⟩ := h
  cases off with
  | true =>
    rw [q_sync_off]
    exact ⟨b, true, o, fu, k, by omega, rfl, ⟨⟨j, j1, j2, j3, j4, by simp⟩, ⟨r, r1, r2, r3, by simp⟩, hs⟩, hk, .inr ⟨by simp, rfl⟩⟩
  | false =>
    have hj := j5 rfl
    have hr := r4 rfl
    subst hj hr
    rcases b with _ | ⟨p, kk⟩
    · have he : al.take (fl.length + i) = [] := frames_nil (by rw [← j4]; rfl)
      have hl : ls = [] := by rw [r3, he]
      subst hl
      have hal : al.length = 0 := by
        have h0 : (al.take (fl.length + i)).length = 0 := by rw [he]; rfl
        rw [List.length_take] at h0; omega
      refine ⟨none, false, o, fu, al.length, by omega, ?_, ⟨⟨fl.length + i, j1, j2, by omega, j4, fun _ => rfl⟩, ⟨fl.length + i, r1, r2, r3, fun _ => rfl⟩, ?_⟩, hk, .inl ⟨?_, rfl⟩⟩
      · exact congrArg Prod.snd (q_sync_none o fu)
      · rw [hal]; simp [M.frames, surO]
      · exact congrArg Prod.fst (q_sync_none o fu)
    · have he : lsyncR (wu (lfO (some (p, kk))) o fu false) nmLg ls.length = if fu = 1 then (10, wu [fg p kk] (o + 1) 0 true) else (0, wu [fg p p.length] (o + 1) (fu - 1) false) := q_sync o fu ls.length p kk
      rw [he]
      have hp : p = M.frames (al.take (fl.length + i)) := j4
      by_cases h1 : fu = 1
      · rw [if_pos h1]
        exact ⟨some (p, kk), true, o + 1, 0, k, by omega, rfl, ⟨⟨fl.length + i, j1, j2, j3, j4, by simp⟩, ⟨fl.length + i, r1, r2, r3, by simp⟩, hs⟩, hk, .inr ⟨by simp, rfl⟩⟩
      · rw [if_neg h1]
        refine ⟨some (p, p.length), false, o + 1, fu - 1, al.length, by omega, rfl, ⟨⟨fl.length + i, j1, j2, by omega, j4, fun _ => rfl⟩, ⟨fl.length + i, r1, r2, r3, fun _ => rfl⟩, ?_⟩, Nat.le_refl _, .inl ⟨rfl, rfl⟩⟩
        show (M.frames (al.take al.length)).length = p.length
        rw [hp, hi]
/-- behind Set, Restart and Open: the new records where it is done, else a beginning of the elder ones -/
theorem amid_end (h : Amid fl al i b off ls k) (hk : surO b ≤ (datO b).length) (hal : ∀ x ∈ al, x.length ≤ 65535) (hb : (M.frames al).length ≤ 2000000) (ns : List (List UInt8)) (hns : ∀ x ∈ ns, x.length ≤ 65535) (hnb : (M.frames ns).length ≤ 2000000) (ks : List Int) (hi : fl.length + i = al.length) :
    ∃ s2 : St, restarted (replacedR (wu (lfO b) o fu off) nmLg (M.frames ns)).2 ks = s2 ∧ s2.ops ≤ o + 3 ∧ (openedR s2 nmLg).1 = 0 ∧
      (((replacedR (wu (lfO b) o fu off) nmLg (M.frames ns)).1 = 0 ∧ (M.scan (readR s2 nmLg).1).1 = ns) ∨ ((replacedR (wu (lfO b) o fu off) nmLg (M.frames ns)).1 ≠ 0 ∧ ∃ t, k ≤ t ∧ t ≤ al.length ∧ (M.scan (readR s2 nmLg).1).1 = al.take t)) := by
  refine ⟨_, rfl, ?_⟩
  have hdl : (datO b).length ≤ 2000000 := by
    obtain ⟨⟨j, j1, j2, j3, j4, j5⟩, _, _⟩ := h
    rw [j4]
    have := M.frames_mono al (show j ≤ al.length by omega)
    rw [List.take_length] at this
    omega
  have notdone : ∀ (c : Option (List UInt8 × Nat)) (o' fu' : Nat) (off' : Bool), o' ≤ o + 3 → (restarted (wu (lfO b ++ fnO c) o' fu' off') ks).ops ≤ o + 3 ∧ (openedR (restarted (wu (lfO b ++ fnO c) o' fu' off') ks) nmLg).1 = 0 ∧ ∃ t, k ≤ t ∧ t ≤ al.length ∧ (M.scan (readR (restarted (wu (lfO b ++ fnO c) o' fu' off') ks) nmLg).1).1 = al.take t := by
    intro c o' fu' off' ho
    obtain ⟨b', c', m, e1, m1, m2, m3⟩ := q_restart b o' fu' c off' ks hk
    rw [e1]
    have hq := q_open b' o' c' (by rw [m3, List.length_take]; omega)
    refine ⟨ho, hq.1, ?_⟩
    rw [hq.2, m3]
    obtain ⟨⟨j, j1, j2, j3, j4, j5⟩, _, hs⟩ := h
    rw [j4]
    obtain ⟨t, t1, t2, t3⟩ := M.scan_cut (al.take j) m (fun x hx => hal x (List.mem_of_mem_take hx)) (by rw [← j4]; exact m2)
    rw [List.length_take] at t1
    refine ⟨t, ?_, by omega, ?_⟩
    · refine t3 k (by rw [List.length_take]; omega) ?_
      rw [List.take_take, Nat.min_eq_left j3, hs]
      exact m1
    · rw [t2, List.take_take, Nat.min_eq_left (by omega)]
  cases off with
  | true =>
    rw [r_off]
    have := notdone none o fu true (by omega)
    rw [show lfO b ++ fnO none = lfO b by simp [fnO]] at this
    exact ⟨this.1, this.2.1, .inr ⟨by simp, this.2.2⟩⟩
  | false =>
    obtain ⟨hops, hc⟩ := r_rep b (M.frames ns) o fu (by omega)
    rcases hc with ⟨o', fu', he⟩ | ⟨c, o', fu', off', he⟩
    · rw [he] at hops ⊢
      obtain ⟨b', c', m, e1, m1, m2, m3⟩ := q_restart (some (M.frames ns, (M.frames ns).length)) o' fu' none false ks (Nat.le_refl _)
      rw [show lfO (some (M.frames ns, (M.frames ns).length)) ++ fnO none = [fg (M.frames ns) (M.frames ns).length] from rfl] at e1
      show (restarted (wu _ _ _ _) ks).ops ≤ _ ∧ _
      rw [e1]
      have hm : m = (M.frames ns).length := Nat.le_antisymm m2 m1
      have hd : datO b' = M.frames ns := by
        rw [m3, hm]
        exact List.take_length
      have hq := q_open b' o' c' (by rw [hd]; omega)
      refine ⟨hops, hq.1, .inl ⟨rfl, ?_⟩⟩
      rw [hq.2, hd, M.scan_all ns hns]
    · rw [he] at hops ⊢
      have := notdone c o' fu' off' hops
      exact ⟨this.1, this.2.1, .inr ⟨by simp, this.2.2⟩⟩
end
end Go.Proofs.Ytbhginnfkmajgaa
namespace Go.Proofs.Ytbhginnfkmajgaa
open Go.RowKit Mem FM
set_option linter.unusedVariables false
set_option maxRecDepth 100000

theorem u_open0 : openedR (St.new 8388608) nmLg = (0, wu (lfO (bA [])) 0 0 false) ∧ (M.scan (readR (St.new 8388608) nmLg).1).1 = [] := by
  have hr : readR (St.new 8388608) nmLg = ([], 8) := by unfold readR; rw [show (St.new 8388608).off = false from rfl, if_pos rG]; rfl
  have hd : droppedR (St.new 8388608) nmLg = (0, wu (lfO (bA [])) 0 0 false) := by
    unfold droppedR removed
    rw [nmN_lg, show (St.new 8388608).off = false from rfl, if_pos rN]
    rfl
  have hs : M.scan [] = ([], 0) := M.scan_all [] (by simp)
  rw [hr, hs]
  refine ⟨?_, rfl⟩
  unfold openedR
  rw [hr, hd, hs, if_neg (by simp), if_neg (by simp), if_neg (by simp)]
theorem Cr.start {w wr w' : World} {F : Nat → Prop} {D : Nat} {s' : St} {ls : List (List UInt8)} {e : Ending} (h : Opened F D s' nmLg ls wr e w') (hF : ∀ k, F k → w.heap.size ≤ k) (hb : Below w.heap.size w wr) :
    ∃ G, e = .returned (.tuple #[.pointer (some ⟨G, 0, none⟩), .int .i64 0]) ∧ Cr w D G s' ls (.slice none 0 0) [] (.slice none 0 0) [] w' := by
  obtain ⟨G, h1, F', FL, rs, h4, h2, h3, h6, h7, h8, h9⟩ := Wal.of_opened h hF hb
  exact ⟨G, h1, F', FL, rs, h3, h4, h2, h6, h7, h8, h9, OwnV.nil _ _ _, OwnV.nil _ _ _, fun k hk => by simp [Value.ownBlock] at hk, fun k hk => by simp [Value.ownBlock] at hk, fun k hk => by simp [Value.ownBlock] at hk⟩
theorem firm_row {F : Nat → Prop} {w wr : World} {r : Row} (h : r.ok w w.heap.size) (hb : Below w.heap.size w wr) (hF : ∀ k, F k → w.heap.size ≤ k) : Firm F wr r.A r.n r.c r.l := fun w' ht =>
  ((Rd.below h hb).keep fun p hp => ht.cell (by have := hb.size; omega) (fun hf => by have := hF _ hf; omega)).more (Nat.le_trans hb.size ht.size)
theorem texts_take (rs : List Row) (i : Nat) : (texts rs).take i = texts (rs.take i) := by simp [texts, List.map_take]
theorem texts_app (a b : List Row) : texts (a ++ b) = texts a ++ texts b := by simp [texts]
theorem not_long {rs : List Row} (h : (rs.any fun r => decide (65535 < r.l.length)) = false) : ∀ x ∈ texts rs, x.length ≤ 65535 := by
  intro x hx
  obtain ⟨r, hr, rfl⟩ := List.mem_map.1 hx
  have := List.any_eq_false.1 h r hr
  simpa using this

set_option maxHeartbeats 16000000 in
theorem walCrashes_early (A1 A2 A3 A4 : Option Addr) (n1 c1 n2 c2 n3 c3 n4 c4 arm : Nat) (fr sr tr : List Row) (ks : List Int) (w : World) (h1 : RdRows w w.heap.size A1 n1 c1 fr) (h2 : RdRows w w.heap.size A2 n2 c2 sr) (h3 : RdRows w w.heap.size A3 n3 c3 tr) (ha : arm < 256)
    (h4 : RdV w w.heap.size A4 n4 c4 (ks.map (Value.int .i64))) (hks : ∀ k ∈ ks, -9223372036854775808 ≤ k ∧ k ≤ 9223372036854775807) (hx : 30 < n1 + n2 + n3 ∨ (fr.any fun r => decide (65535 < r.l.length)) = true ∨ (sr.any fun r => decide (65535 < r.l.length)) = true ∨ (tr.any fun r => decide (65535 < r.l.length)) = true) :
    Calls Try.prog 3 #[.slice A1 n1 c1, .slice A2 n2 c2, .slice A3 n3 c3, .int .u8 (arm : Int), .slice A4 n4 c4] w (fun e w' => e = .returned (.bool true) ∧ Below w.heap.size w w') := by
  have hc1 := h1.2.1; have hm1 := h1.2.2.1; have hc2 := h2.2.1; have hm2 := h2.2.2.1; have hc3 := h3.2.1; have hm3 := h3.2.2.1
  have HAW := Lib.hid (fun w => awake_any w)
  have H1 := Lib.hid h1; have H2 := Lib.hid h2; have H3 := Lib.hid h3; have H4 := Lib.hid h4; have HKS := Lib.hid hks
  have HN1 := Lib.hid h1.1; have HN2 := Lib.hid h2.1; have HN3 := Lib.hid h3.1
  have HL1 := Lib.hid (fun w1 (hb : Below w.heap.size w w1) => long_any A1 n1 c1 fr w1 (by have := h1.below hb; exact ⟨this.1, this.2.1, this.2.2.1, fun r hr => Rd.more (this.2.2.2.1 r hr) hb.size, fun h0 => by obtain ⟨b, off, e, hb1, hc⟩ := this.2.2.2.2 h0; exact ⟨b, off, e, Nat.lt_of_lt_of_le hb1 hb.size, hc⟩⟩))
  have HL2 := Lib.hid (fun w1 (hb : Below w.heap.size w w1) => long_any A2 n2 c2 sr w1 (by have := h2.below hb; exact ⟨this.1, this.2.1, this.2.2.1, fun r hr => Rd.more (this.2.2.2.1 r hr) hb.size, fun h0 => by obtain ⟨b, off, e, hb1, hc⟩ := this.2.2.2.2 h0; exact ⟨b, off, e, Nat.lt_of_lt_of_le hb1 hb.size, hc⟩⟩))
  have HL3 := Lib.hid (fun w1 (hb : Below w.heap.size w w1) => long_any A3 n3 c3 tr w1 (by have := h3.below hb; exact ⟨this.1, this.2.1, this.2.2.1, fun r hr => Rd.more (this.2.2.2.1 r hr) hb.size, fun h0 => by obtain ⟨b, off, e, hb1, hc⟩ := this.2.2.2.2 h0; exact ⟨b, off, e, Nat.lt_of_lt_of_le hb1 hb.size, hc⟩⟩))
  clear h1 h2 h3 h4 hks
  by_cases hbig : 30 < n1 + n2 + n3
  · have hq : decide ((30 : Int) < (n1 : Int) + (n2 : Int) + (n3 : Int)) = true := by simp; omega
    clear hx
    go_enter Try.func3, Try.ntmps3
    go_wp2_with fail
    refine (HAW.out _).mono ?_
    rintro e w1 ⟨rfl, hb1⟩
    have HB1 := Lib.hid hb1
    clear hb1
    go_wp2_with fail
    refine (HAW.out _).mono ?_
    rintro e w2 ⟨rfl, hb2⟩
    go_wp2
    go_ret
    exact ⟨rfl, HB1.out.trans (hb2.mono HB1.out.size)⟩
  · have hq : decide ((30 : Int) < (n1 : Int) + (n2 : Int) + (n3 : Int)) = false := by simp; omega
    have hx : (fr.any fun r => decide (65535 < r.l.length)) = true ∨ (sr.any fun r => decide (65535 < r.l.length)) = true ∨ (tr.any fun r => decide (65535 < r.l.length)) = true := hx.resolve_left hbig
    cases g1 : fr.any fun r => decide (65535 < r.l.length)
    · cases g2 : sr.any fun r => decide (65535 < r.l.length)
      · have g3 : (tr.any fun r => decide (65535 < r.l.length)) = true := by
          rcases hx with h | h | h
          · rw [g1] at h; cases h
          · rw [g2] at h; cases h
          · exact h
        clear hx
        go_enter Try.func3, Try.ntmps3
        go_wp2_with fail
        refine (HAW.out _).mono ?_
        rintro e w1 ⟨rfl, hb1⟩
        have HB1 := Lib.hid hb1
        clear hb1
        go_wp2_with fail
        refine (HL1.out w1 HB1.out).mono ?_
        rintro e w1' ⟨rfl, hw1⟩
        have hw1 := hw1.symm
        subst hw1
        rw [g1]
        go_wp2_with fail
        refine (HL2.out w1 HB1.out).mono ?_
        rintro e w1' ⟨rfl, hw1⟩
        have hw1 := hw1.symm
        subst hw1
        rw [g2]
        go_wp2_with fail
        refine (HL3.out w1 HB1.out).mono ?_
        rintro e w1' ⟨rfl, hw1⟩
        have hw1 := hw1.symm
        subst hw1
        rw [g3]
        go_wp2_with fail
        refine (HAW.out _).mono ?_
        rintro e w2 ⟨rfl, hb2⟩
        go_wp2
        go_ret
        exact ⟨rfl, HB1.out.trans (hb2.mono HB1.out.size)⟩
      · clear hx
        go_enter Try.func3, Try.ntmps3
        go_wp2_with fail
        refine (HAW.out _).mono ?_
        rintro e w1 ⟨rfl, hb1⟩
        have HB1 := Lib.hid hb1
        clear hb1
        go_wp2_with fail
        refine (HL1.out w1 HB1.out).mono ?_
        rintro e w1' ⟨rfl, hw1⟩
        have hw1 := hw1.symm
        subst hw1
        rw [g1]
        go_wp2_with fail
        refine (HL2.out w1 HB1.out).mono ?_
        rintro e w1' ⟨rfl, hw1⟩
        have hw1 := hw1.symm
        subst hw1
        rw [g2]
        go_wp2_with fail
        refine (HAW.out _).mono ?_
        rintro e w2 ⟨rfl, hb2⟩
        go_wp2
        go_ret
        exact ⟨rfl, HB1.out.trans (hb2.mono HB1.out.size)⟩
    · clear hx
      go_enter Try.func3, Try.ntmps3
      go_wp2_with fail
      refine (HAW.out _).mono ?_
      rintro e w1 ⟨rfl, hb1⟩
      have HB1 := Lib.hid hb1
      clear hb1
      go_wp2_with fail
      refine (HL1.out w1 HB1.out).mono ?_
      rintro e w1' ⟨rfl, hw1⟩
      have hw1 := hw1.symm
      subst hw1
      rw [g1]
      go_wp2_with fail
      refine (HAW.out _).mono ?_
      rintro e w2 ⟨rfl, hb2⟩
      go_wp2
      go_ret
      exact ⟨rfl, HB1.out.trans (hb2.mono HB1.out.size)⟩

set_option maxHeartbeats 16000000 in
theorem walCrashes_main (A1 A2 A3 A4 : Option Addr) (n1 c1 n2 c2 n3 c3 n4 c4 arm : Nat) (fr sr tr : List Row) (ks : List Int) (w : World) (h1 : RdRows w w.heap.size A1 n1 c1 fr) (h2 : RdRows w w.heap.size A2 n2 c2 sr) (h3 : RdRows w w.heap.size A3 n3 c3 tr) (ha : arm < 256)
    (h4 : RdV w w.heap.size A4 n4 c4 (ks.map (Value.int .i64))) (hks : ∀ k ∈ ks, -9223372036854775808 ≤ k ∧ k ≤ 9223372036854775807) (hbig : ¬ 30 < n1 + n2 + n3) (g1 : (fr.any fun r => decide (65535 < r.l.length)) = false) (g2 : (sr.any fun r => decide (65535 < r.l.length)) = false) (g3 : (tr.any fun r => decide (65535 < r.l.length)) = false) :
    Calls Try.prog 3 #[.slice A1 n1 c1, .slice A2 n2 c2, .slice A3 n3 c3, .int .u8 (arm : Int), .slice A4 n4 c4] w (fun e w' => e = .returned (.bool true) ∧ Below w.heap.size w w') := by
  have hc1 := h1.2.1; have hm1 := h1.2.2.1; have hc2 := h2.2.1; have hm2 := h2.2.2.1; have hc3 := h3.2.1; have hm3 := h3.2.2.1
  have HAW := Lib.hid (fun w => awake_any w)
  have H1 := Lib.hid h1; have H2 := Lib.hid h2; have H3 := Lib.hid h3; have H4 := Lib.hid h4; have HKS := Lib.hid hks
  have HN1 := Lib.hid h1.1; have HN2 := Lib.hid h2.1; have HN3 := Lib.hid h3.1
  have HL1 := Lib.hid (fun w1 (hb : Below w.heap.size w w1) => long_any A1 n1 c1 fr w1 (by have := h1.below hb; exact ⟨this.1, this.2.1, this.2.2.1, fun r hr => Rd.more (this.2.2.2.1 r hr) hb.size, fun h0 => by obtain ⟨b, off, e, hb1, hc⟩ := this.2.2.2.2 h0; exact ⟨b, off, e, Nat.lt_of_lt_of_le hb1 hb.size, hc⟩⟩))
  have HL2 := Lib.hid (fun w1 (hb : Below w.heap.size w w1) => long_any A2 n2 c2 sr w1 (by have := h2.below hb; exact ⟨this.1, this.2.1, this.2.2.1, fun r hr => Rd.more (this.2.2.2.1 r hr) hb.size, fun h0 => by obtain ⟨b, off, e, hb1, hc⟩ := this.2.2.2.2 h0; exact ⟨b, off, e, Nat.lt_of_lt_of_le hb1 hb.size, hc⟩⟩))
  have HL3 := Lib.hid (fun w1 (hb : Below w.heap.size w w1) => long_any A3 n3 c3 tr w1 (by have := h3.below hb; exact ⟨this.1, this.2.1, this.2.2.1, fun r hr => Rd.more (this.2.2.2.1 r hr) hb.size, fun h0 => by obtain ⟨b, off, e, hb1, hc⟩ := this.2.2.2.2 h0; exact ⟨b, off, e, Nat.lt_of_lt_of_le hb1 hb.size, hc⟩⟩))
  clear h1 h2 h3 h4 hks
  have hq : decide ((30 : Int) < (n1 : Int) + (n2 : Int) + (n3 : Int)) = false := by simp; omega
  have NL1 := Lib.hid (not_long g1); have NL2 := Lib.hid (not_long g2); have NL3 := Lib.hid (not_long g3)
  go_enter Try.func3, Try.ntmps3
  go_wp2_with fail
  refine (HAW.out _).mono ?_
  rintro e w1 ⟨rfl, hb1⟩
  have HB1 := Lib.hid hb1
  clear hb1
  go_wp2_with fail
  refine (HL1.out w1 HB1.out).mono ?_
  rintro e w1' ⟨rfl, hw1⟩
  have hw1 := hw1.symm
  subst hw1
  rw [g1]
  go_wp2_with fail
  refine (HL2.out w1 HB1.out).mono ?_
  rintro e w1' ⟨rfl, hw1⟩
  have hw1 := hw1.symm
  subst hw1
  rw [g2]
  go_wp2_with fail
  refine (HL3.out w1 HB1.out).mono ?_
  rintro e w1' ⟨rfl, hw1⟩
  have hw1 := hw1.symm
  subst hw1
  rw [g3]
  obtain ⟨i0, hi0, hz0, hz1, hz2⟩ := info_parts Try.infoR
  have HI := Lib.hid hi0; have HZ0 := Lib.hid hz0; have HZ1 := Lib.hid hz1; have HZ2 := Lib.hid hz2
  clear hi0 hz0 hz1 hz2 HL1 HL2 HL3 g1 g2 g3
  obtain ⟨a12, ha12⟩ : ∃ a12 : Nat, arm % 12 = a12 := ⟨_, rfl⟩
  have hmodA : (arm : Int).tmod 12 = (a12 : Int) := by rw [Int.tmod_eq_emod_of_nonneg (by omega)]; omega
  have hmodB : (arm : Int) % 12 = (a12 : Int) := by omega
  obtain ⟨kk, hkk⟩ : ∃ kk : Nat, n1 / 2 = kk := ⟨_, rfl⟩
  have hdivA : (n1 : Int).tdiv 2 = (kk : Int) := by rw [Int.tdiv_eq_ediv_of_nonneg (by omega)]; omega
  have hdivB : (n1 : Int) / 2 = (kk : Int) := by omega
  have hkn : kk ≤ n1 := by omega
  have ha12b : a12 ≤ 12 := by omega
  clear ha12 hkk
  have HFL := Lib.hid (show (texts fr).length = n1 by have := HN1.out; simp [texts]; omega)
  have HSL := Lib.hid (show (texts sr).length = n2 by have := HN2.out; simp [texts]; omega)
  have HTL := Lib.hid (show (texts tr).length = n3 by have := HN3.out; simp [texts]; omega)
  have HAL := Lib.hid (show ∀ x ∈ texts fr ++ texts sr, x.length ≤ 65535 from fun x hx => (List.mem_append.1 hx).elim (NL1.out x) (NL2.out x))
  have HAB := Lib.hid (show (M.frames (texts fr ++ texts sr)).length ≤ 2000000 by
    have := M.frames_bound _ HAL.out
    rw [List.length_append, HFL.out, HSL.out] at this
    omega)
  go_wp2_with fail
  refine (new_any 8388608 w1 (by omega)).mono ?_
  rintro e w2 ⟨D, F0, rfl, hd, hF, hb2⟩
  have HB2 := Lib.hid (HB1.out.trans (hb2.mono HB1.out.size))
  have HF2 := Lib.hid (show ∀ k, F0 k → w.heap.size ≤ k from fun k hk => Nat.le_trans HB1.out.size (hF k hk))
  have ho := open_ok D F0 (St.new 8388608) nmLg w2 hd (by decide) (by decide) (by decide) (by rw [u_open0.1])
  rw [u_open0.1, u_open0.2] at ho
  have HO := Lib.hid ho
  clear hd hF hb2 ho
  go_wp2_with fail
  refine HO.out.mono ?_
  rintro e w3 hopd
  obtain ⟨G, rfl, hcr0⟩ := Cr.start hopd HF2.out HB2.out
  have HM0 := Lib.hid (show Cr w D G (wu (lfO (bA ((texts fr).take 0))) 0 0 false) ((texts fr).take 0) (.slice none 0 0) (fr.take 0) (.slice none 0 0) [] w3 from hcr0)
  clear hopd HO hcr0 HB2 HF2
  go_wp2
  go_loopw [15, 16] (fun o p wr => ∃ (i c9 : Nat) (A9 : Option Addr), p = .int .i64 i ∧ o = .slice A9 i c9 ∧ i ≤ n1 ∧ Hid (Cr w D G (wu (lfO (bA ((texts fr).take i))) i 0 false) ((texts fr).take i) (.slice A9 i c9) (fr.take i) (.slice none 0 0) [] wr)) (fun _ p _ => n1 - (intOf p).toNat)
  case atStart => exact ⟨0, 0, none, rfl, rfl, Nat.zero_le _, HM0⟩
  case round =>
    obtain ⟨i, c9, A9, rfl, rfl, hi, HV⟩ := hrel
    rename World => wr
    obtain ⟨F, FL, rs, hrs, hcr⟩ := HV.out
    have HRS := Lib.hid hrs; have HCR := Lib.hid hcr
    have HBR := Lib.hid hcr.2.2.2.2.2.1
    have hrl : rs.length = i := by
      have := congrArg List.length hrs
      rw [List.length_take, HFL.out] at this
      simp only [recs, List.length_map] at this
      omega
    clear hrs hcr HV
    by_cases hlt : i < n1
    · have hix : i < fr.length := by have := HN1.out; omega
      obtain ⟨b, off, rfl, hb, hcell⟩ := (H1.out.below HBR.out).2.2.2.2 (by omega)
      have q := hcell i hix
      have HQ := Lib.hid (fun (W : World) (hbW : Below w.heap.size w W) => ((hbW.cell (p := ⟨b, off + i, none⟩) hb).trans (HBR.out.cell (p := ⟨b, off + i, none⟩) hb).symm).trans q)
      have hil : (i : Int) < (n1 : Int) := by omega
      have hok := H1.out.2.2.2.1 fr[i] (List.getElem_mem hix)
      have hxl : fr[i].l.length ≤ 65535 := NL1.out _ (List.mem_map.2 ⟨fr[i], List.getElem_mem hix, rfl⟩)
      have hlen := Rd.len hok
      have hTT : (texts fr).take (i + 1) = (texts fr).take i ++ [fr[i].l] := by
        rw [List.take_succ_eq_append_getElem (by rw [HFL.out]; exact hlt)]
        simp [texts]
      have hFT : fr.take (i + 1) = fr.take i ++ [fr[i]] := List.take_succ_eq_append_getElem hix
      have hap := lappend_any D G 0 F FL _ nmLg rs fr[i].A fr[i].n fr[i].c fr[i].l wr HCR.out.1 HCR.out.2.1 HCR.out.2.2.1 (by decide) (by show i + 1 < _; omega) (firm_row hok HBR.out HCR.out.2.2.2.1) (by omega) (by omega)
      rw [u_app _ _ _ (by
        have h1 := M.frames_mono (texts fr) (show i + 1 ≤ (texts fr).length by rw [HFL.out]; omega)
        rw [hTT, M.frames_snoc, List.length_append, List.take_length] at h1
        have h2 := M.frames_bound _ NL1.out
        rw [HFL.out] at h2
        omega)] at hap
      have HAP := Lib.hid hap
      have HOK := Lib.hid hok
      have HTT := Lib.hid hTT; have HFT := Lib.hid hFT
      have hcap := Rd.cap hok; have hmx := Rd.max hok
      have hbw : b < wr.heap.size := Nat.lt_of_lt_of_le hb HBR.out.size
      clear hap hok hcell hTT hFT hxl hlen
      generalize fr[i] = r at *
      obtain ⟨rA, rn, rc, rl⟩ := r
      simp only [Row.v] at q
      simp only at HAP hcap hmx
      go_wp2_with fail
      refine HAP.out.mono ?_
      rintro e w5 hdid
      obtain ⟨rfl, F5, FL5, rs5, hrs5, hcr5⟩ := HCR.out.did hdid
      have HRS5 := Lib.hid hrs5; have HCR5 := Lib.hid hcr5
      have HB5 := Lib.hid hcr5.2.2.2.2.2.1
      have HO5 := Lib.hid hcr5.2.2.2.2.2.2.1
      have q5 := HQ.out w5 hcr5.2.2.2.2.2.1
      simp only [Row.v] at q5
      have hb5s := hcr5.2.2.2.2.2.1.size
      clear hdid hrs5 hcr5 HAP q
      go_wp2_with (at_builtin; go_must (refine wpList_appV (w5.alloc _) rfl (.tmp 73) (.tmp 78) _ rfl w.heap.size (w5.heap.size + 1) _ i0 _ 24 Try.underlying22 HI.out HZ0.out HZ1.out HZ2.out rfl (.slice A9 i c9) ((fr.take i).map Row.v) (HO5.out.alloc _) rfl (some ⟨w5.heap.size, 0, none⟩) 1 1 [.slice rA rn rc] (RdV.fresh w5 _ _) rfl (by simp [Value.oneCell']) (by have := HN1.out; simp; omega) (by have := HN1.out; simp; omega) (by simp; omega) ?_))
      intro v9 w9 hO9 hg9 hat9
      rw [← List.map_take] at hO9
      have hcr9 := HCR5.out.push (zs := [⟨rA, rn, rc, rl⟩]) hO9 hg9 hat9
      obtain ⟨A10, c10, hv9, -⟩ := hO9.form
      have hl9 : ((fr.take i).map Row.v ++ [Value.slice rA rn rc]).length = i + 1 := by have := HN1.out; simp; omega
      rw [hl9] at hv9
      subst hv9
      have HM9 := Lib.hid (show Cr w D G (wu (lfO (bA ((texts fr).take (i + 1)))) (i + 1) 0 false) ((texts fr).take (i + 1)) (.slice A10 (i + 1) c10) (fr.take (i + 1)) (.slice none 0 0) [] w9 from ⟨F5, FL5, rs5, by
        rw [HRS5.out, HTT.out, ← HRS.out]; rfl, by
        rw [HTT.out, HFT.out]; exact hcr9⟩)
      clear hO9 hg9 hat9 hcr9 hl9 q5
      go_wp2
      go_roundw
      case rel => exact ⟨i + 1, c10, A10, by go_num, rfl, by omega, HM9⟩
      case measure => simp [intOf]; omega
    · obtain rfl : i = n1 := by omega
      have hT1 : (texts fr).take i = texts fr := by rw [← HFL.out, List.take_length]
      have hF1 : fr.take i = fr := by rw [HN1.out, List.take_length]
      rw [hT1] at HRS HCR
      rw [hF1] at HCR
      obtain ⟨o1, ho1, hus⟩ := u_sync (texts fr) i
      rw [HFL.out] at hus
      have hsy := lsync_any D G F FL _ nmLg rs wr HCR.out.1 HCR.out.2.1 HCR.out.2.2.1 (by decide) (by show i + 1 < _; omega)
      rw [hrl, hus] at hsy
      have HSY := Lib.hid hsy
      clear hsy hus hT1 hF1
      go_wp2_with fail
      refine HSY.out.mono ?_
      rintro e w5 hdid
      obtain ⟨rfl, F5, FL5, rs5, hrs5, hcr5⟩ := HCR.out.disk hdid
      have har := arm_any D F5 _ a12 w5 hcr5.1 (by omega)
      have HAR := Lib.hid har
      have HRS5 := Lib.hid (show recs rs5 = texts fr by rw [hrs5, HRS.out]); have HCR5 := Lib.hid hcr5
      clear hdid hrs5 hcr5 har HSY HCR HRS HBR hrl
      go_wp2_with fail
      refine HAR.out.mono ?_
      rintro e w6 hdid
      obtain ⟨rfl, F6, FL6, rs6, hrs6, hcr6⟩ := HCR5.out.disk hdid
      have HM6 := Lib.hid (show Cr w D G (wu (lfO (bS (texts fr))) o1 a12 false) (texts fr) (.slice A9 i c9) (fr ++ sr.take 0) (.slice none 0 0) [] w6 from ⟨F6, FL6, rs6, by rw [hrs6, HRS5.out], by rw [show fr ++ sr.take 0 = fr by simp]; exact hcr6⟩)
      have HA6 := Lib.hid (amid_start (texts fr) (texts sr))
      clear hdid hrs6 hcr6 HAR HCR5 HRS5
      go_wp2
      go_loopw [15, 18] (fun o p wr => ∃ (i2 m c9 o2 fu : Nat) (A9 : Option Addr) (b : Option (List UInt8 × Nat)) (off : Bool) (ls : List (List UInt8)), p = .int .i64 i2 ∧ o = .slice A9 m c9 ∧ i2 ≤ n2 ∧ m ≤ 100 ∧ o2 ≤ 100 ∧ Hid (m = i + i2) ∧ Hid (o2 ≤ i + 1 + i2) ∧ Hid (Amid (texts fr) (texts fr ++ texts sr) i2 b off ls (texts fr).length) ∧ Hid (Cr w D G (wu (lfO b) o2 fu off) ls (.slice A9 m c9) (fr ++ sr.take i2) (.slice none 0 0) [] wr)) (fun _ p _ => n2 - (intOf p).toNat)
      case atStart => exact ⟨0, i, c9, o1, a12, A9, _, _, _, rfl, rfl, Nat.zero_le _, by omega, by omega, Lib.hid rfl, Lib.hid (by omega), HA6, HM6⟩
      case round =>
        obtain ⟨i2, m, c10, o2, fu, A10, b, off, ls, rfl, rfl, hi2, hmb, hob, HMI, HOI, HAM, HV⟩ := hrel
        rename World => wq
        obtain ⟨F7, FL7, rs7, hrs7, hcr7⟩ := HV.out
        have HRS7 := Lib.hid hrs7; have HCR7 := Lib.hid hcr7
        have HB7 := Lib.hid hcr7.2.2.2.2.2.1
        have HO7 := Lib.hid hcr7.2.2.2.2.2.2.1
        have hs7 := hcr7.2.2.2.2.2.1.size
        have hrl7 : rs7.length = ls.length := by
          have := congrArg List.length hrs7
          simpa only [recs, List.length_map] using this
        have hlsl : ls.length ≤ 30 ∧ i ≤ ls.length := by
          obtain ⟨r, r1, r2, r3, r4⟩ := HAM.out.log
          rw [r3, List.length_take, List.length_append, HFL.out, HSL.out]
          rw [HFL.out] at r1 r2
          omega
        have HRL7 := Lib.hid hrl7; have HLSL := Lib.hid hlsl
        clear hrs7 hcr7 HV hrl7 hlsl
        by_cases hlt2 : i2 < n2
        · have hix : i2 < sr.length := by have := HN2.out; omega
          obtain ⟨bb, off9, rfl, hb, hcell⟩ := (H2.out.below HB7.out).2.2.2.2 (by omega)
          have q := hcell i2 hix
          have HQ := Lib.hid (fun (W : World) (hbW : Below w.heap.size w W) => ((hbW.cell (p := ⟨bb, off9 + i2, none⟩) hb).trans (HB7.out.cell (p := ⟨bb, off9 + i2, none⟩) hb).symm).trans q)
          have hil : (i2 : Int) < (n2 : Int) := by omega
          have hok := H2.out.2.2.2.1 sr[i2] (List.getElem_mem hix)
          have hxl : sr[i2].l.length ≤ 65535 := NL2.out _ (List.mem_map.2 ⟨sr[i2], List.getElem_mem hix, rfl⟩)
          have hlen := Rd.len hok
          have HFT := Lib.hid (show sr.take (i2 + 1) = sr.take i2 ++ [sr[i2]] from List.take_succ_eq_append_getElem hix)
          obtain ⟨b', off', o', fu', ho', he', ham'⟩ := amid_app (o := o2) (fu := fu) HAM.out sr[i2].l (by
            rw [HFL.out, List.getElem?_append_right (by rw [HFL.out]; omega), HFL.out, Nat.add_sub_cancel_left]
            simp [texts, hix]) (by have := HAB.out; omega)
          have HAPP := Lib.hid (fun (W : World) (F FL : Nat → Prop) (v9 : Value) (zs : List Row) (hc : CrF F FL rs7 w D G (wu (lfO b) o2 fu off) v9 zs (.slice none 0 0) [] W) => by
            have := lappend_any D G 0 F FL (wu (lfO b) o2 fu off) nmLg rs7 sr[i2].A sr[i2].n sr[i2].c sr[i2].l W hc.1 hc.2.1 hc.2.2.1 (by decide) (by show o2 + 1 < _; omega) (firm_row hok hc.2.2.2.2.2.1 hc.2.2.2.1) (by omega) (by have := HRL7.out; have := HLSL.out; omega)
            rw [HRS7.out, he'] at this
            exact this)
          have HAM2 := Lib.hid ham'
          generalize (lappR (wu (lfO b) o2 fu off) nmLg sr[i2].l).1 = xx at *
          generalize lappLs ls xx sr[i2].l = ls2 at *
          have hcap := Rd.cap hok; have hmx := Rd.max hok
          clear hok hcell hxl hlen he' ham'
          generalize sr[i2] = r at *
          obtain ⟨rA, rn, rc, rl⟩ := r
          simp only [Row.v] at q HQ
          simp only at HAPP hcap hmx
          go_wp2_with (at_builtin; go_must (refine wpList_appV (wq.alloc _) rfl (.tmp 96) (.tmp 101) _ rfl w.heap.size (wq.heap.size + 1) _ i0 _ 24 Try.underlying22 HI.out HZ0.out HZ1.out HZ2.out rfl (.slice A10 m c10) ((fr ++ sr.take i2).map Row.v) (HO7.out.alloc _) rfl (some ⟨wq.heap.size, 0, none⟩) 1 1 [.slice rA rn rc] (RdV.fresh wq _ _) rfl (by simp [Value.oneCell']) (by have := HN1.out; have := HN2.out; simp; omega) (by have := HN1.out; have := HN2.out; simp; omega) (by simp; omega) ?_))
          intro v9 w9 hO9 hg9 hat9
          have hO9' : OwnV w9 w.heap.size 34 v9 ((fr ++ sr.take i2).map Row.v ++ [Value.slice rA rn rc]) := by simpa using hO9
          have hcr9 := HCR7.out.push (zs := [⟨rA, rn, rc, rl⟩]) hO9' hg9 hat9
          obtain ⟨A11, c11, hv9, -⟩ := hO9'.form
          have hl9 : ((fr ++ sr.take i2).map Row.v ++ [Value.slice rA rn rc]).length = m + 1 := by have := HN1.out; have := HN2.out; have := HMI.out; simp; omega
          rw [hl9] at hv9
          subst hv9
          have HCR9 := Lib.hid hcr9
          have q9 := HQ.out w9 hcr9.2.2.2.2.2.1
          have HAP := Lib.hid (HAPP.out w9 F7 FL7 _ _ hcr9)
          clear hO9 hO9' hg9 hat9 hcr9 hl9 q HAPP
          go_wp2_with fail
          refine HAP.out.mono ?_
          rintro e w10 hdid
          obtain ⟨rfl, F10, FL10, rs10, hrs10, hcr10⟩ := HCR9.out.did hdid
          have HM10 := Lib.hid (show Cr w D G (wu (lfO b') o' fu' off') ls2 (.slice A11 (m + 1) c11) (fr ++ sr.take (i2 + 1)) (.slice none 0 0) [] w10 from ⟨F10, FL10, rs10, hrs10, by rw [HFT.out, ← List.append_assoc]; exact hcr10⟩)
          clear hdid hrs10 hcr10 HAP HCR9 q9
          go_wp2
          go_roundw
          case rel => exact ⟨i2 + 1, m + 1, c11, o', fu', A11, b', off', ls2, by go_num, rfl, by omega, by have := HMI.out; omega, by have := HOI.out; omega, Lib.hid (by have := HMI.out; omega), Lib.hid (by have := HOI.out; omega), HAM2, HM10⟩
          case measure => simp [intOf]; omega
        · obtain rfl : i2 = n2 := by omega
          have hF2 : sr.take i2 = sr := by rw [HN2.out, List.take_length]
          rw [hF2] at HCR7 HO7
          have hil2 : (texts fr).length + i2 = (texts fr ++ texts sr).length := by rw [List.length_append, HSL.out]
          obtain ⟨b', off', o', fu', k', ho', he', ham', hle', hres⟩ := amid_sync (o := o2) (fu := fu) HAM.out hil2 (amid_le HAM.out)
          have hsy := lsync_any D G F7 FL7 _ nmLg rs7 wq HCR7.out.1 HCR7.out.2.1 HCR7.out.2.2.1 (by decide) (by show o2 + 1 < _; omega)
          rw [HRL7.out, he'] at hsy
          have HSY := Lib.hid hsy; have HAM2 := Lib.hid ham'; have HLE2 := Lib.hid hle'
          generalize (lsyncR (wu (lfO b) o2 fu off) nmLg ls.length).1 = xs at *
          clear hsy he' ham' hle'
          have HALL := Lib.hid (show (texts fr ++ texts sr).length = m by have := HMI.out; rw [List.length_append, HFL.out, HSL.out]; omega)
          rcases hres with ⟨rfl, hk'⟩ | ⟨hx0, hk'⟩
          · have HK' := Lib.hid (show k' = m by rw [hk', HALL.out])
            clear hk'
            go_wp2_with fail
            refine HSY.out.mono ?_
            rintro e w11 hdid
            obtain ⟨rfl, F11, FL11, rs11, hrs11, hcr11⟩ := HCR7.out.disk hdid
            have HCR11 := Lib.hid hcr11; have HRS11 := Lib.hid (show recs rs11 = ls by rw [hrs11, HRS7.out])
            have HB11 := Lib.hid hcr11.2.2.2.2.2.1
            have hs11 := hcr11.2.2.2.2.2.1.size
            have HSRC := Lib.hid ((H1.out.below hcr11.2.2.2.2.2.1).rdv.upto hkn)
            clear hdid hrs11 hcr11 HSY HCR7 HO7
            go_wp2_with (at_builtin; go_must (refine wpList_appV _ rfl (.tmp 117) (.tmp 120) _ rfl w.heap.size w.heap.size _ i0 _ 24 Try.underlying22 HI.out HZ0.out HZ1.out HZ2.out rfl (.slice none 0 0) [] (OwnV.nil _ _ _) rfl A1 kk c1 ((fr.map Row.v).take kk) HSRC.out rfl (fun u hu => rows_one fr u (List.mem_of_mem_take hu)) (by simp; omega) (by simp; omega) hs11 ?_))
            intro v12 w12 hO12 hg12 hat12
            have hO12' : OwnV w12 w.heap.size 34 v12 (([] : List Row).map Row.v ++ (fr.take kk).map Row.v) := by simpa [List.map_take] using hO12
            have hcr12 := HCR11.out.push2 (zs := fr.take kk) hO12' hg12 hat12
            obtain ⟨A12, c12, hv12, -⟩ := hO12'.form
            have hl12 : (([] : List Row).map Row.v ++ (fr.take kk).map Row.v).length = kk := by have := HN1.out; simp; omega
            rw [hl12] at hv12
            subst hv12
            have HCR12 := Lib.hid hcr12
            have HO12 := Lib.hid hO12'
            have hs12 := hcr12.2.2.2.2.2.1.size
            have HSRC2 := Lib.hid ((H3.out.below hcr12.2.2.2.2.2.1).rdv)
            clear hO12 hO12' hg12 hat12 hcr12 hl12 HSRC HCR11
            go_wp2_with (at_builtin; go_must (refine wpList_appV _ rfl (.tmp 122) (.tmp 123) _ rfl w.heap.size w.heap.size _ i0 _ 24 Try.underlying22 HI.out HZ0.out HZ1.out HZ2.out rfl (.slice A12 kk c12) (([] : List Row).map Row.v ++ (fr.take kk).map Row.v) HO12.out rfl A3 n3 c3 (tr.map Row.v) HSRC2.out rfl (rows_one tr) (by have := HN3.out; have := HN1.out; simp; omega) (by have := HN3.out; have := HN1.out; simp; omega) hs12 ?_))
            intro v13 w13 hO13 hg13 hat13
            have hO13' : OwnV w13 w.heap.size 34 v13 (([] ++ fr.take kk).map Row.v ++ tr.map Row.v) := by simpa [List.map_take] using hO13
            have hcr13 := HCR12.out.push2 (zs := tr) hO13' hg13 hat13
            obtain ⟨A13, c13, hv13, -⟩ := hO13'.form
            have hl13 : (([] ++ fr.take kk).map Row.v ++ tr.map Row.v).length = kk + n3 := by have := HN1.out; have := HN3.out; simp; omega
            obtain ⟨M13, hM13⟩ : ∃ M13, kk + n3 = M13 := ⟨_, rfl⟩
            rw [hl13, hM13] at hv13
            subst hv13
            have HM13 := Lib.hid hM13
            have HNS1 := Lib.hid (show ∀ x ∈ (texts fr).take kk ++ texts tr, x.length ≤ 65535 from fun x hx => (List.mem_append.1 hx).elim (fun h => NL1.out x (List.mem_of_mem_take h)) (NL3.out x))
            have HNL := Lib.hid (show ((texts fr).take kk ++ texts tr).length = M13 by rw [List.length_append, List.length_take, HFL.out, HTL.out]; omega)
            have hnb : (M.frames ((texts fr).take kk ++ texts tr)).length ≤ 2000000 := by
              have := M.frames_bound _ HNS1.out
              rw [HNL.out] at this
              omega
            have HTK := Lib.hid (show (recs rs11).take kk = (texts fr).take kk by
              obtain ⟨r, r1, r2, r3, r4⟩ := HAM2.out.log
              rw [HRS11.out, r3, List.take_take, Nat.min_eq_left (by rw [HFL.out] at r1; omega), List.take_append_of_le_length (by rw [HFL.out]; omega)])
            have hr11 : rs11.length = ls.length := by have := congrArg List.length HRS11.out; simpa only [recs, List.length_map] using this
            have hset := set_any D G kk F11 FL11 _ nmLg rs11 A3 n3 c3 (texts tr) w13 hcr13.1 hcr13.2.1 hcr13.2.2.1 (by decide) (by show o' + 10 < _; omega) (by have := HLSL.out; omega) ((H3.out.below hcr13.2.2.2.2.2.1).rdl hcr13.2.2.2.2.2.1.size) NL3.out (by have := HLSL.out; omega)
            rw [HTK.out] at hset
            obtain ⟨s2, e2, o3, hop0, hcase⟩ := amid_end (o := o') (fu := fu') HAM2.out HLE2.out HAL.out HAB.out ((texts fr).take kk ++ texts tr) HNS1.out hnb ks hil2
            have HCR13 := Lib.hid hcr13
            have HSET := Lib.hid hset
            generalize replacedR (wu (lfO b') o' fu' off') nmLg (M.frames ((texts fr).take kk ++ texts tr)) = rr at *
            obtain ⟨x, s14⟩ := rr
            simp only at HSET e2 hcase
            generalize setLs x (recs rs11) ((texts fr).take kk ++ texts tr) = ls14 at *
            have HE2 := Lib.hid e2; have HOP0 := Lib.hid hop0
            have HOK := Lib.hid (show ∀ W, Below w.heap.size w W → ∀ r ∈ fr ++ (sr ++ tr), r.ok W W.heap.size from fun W hW r hr => by
              have : r.ok w w.heap.size := by
                rcases List.mem_append.1 hr with hr | hr
                · exact H1.out.2.2.2.1 r hr
                · rcases List.mem_append.1 hr with hr | hr
                  · exact H2.out.2.2.2.1 r hr
                  · exact H3.out.2.2.2.1 r hr
              exact Rd.more (Rd.below this hW) hW.size)
            clear hO13 hO13' hg13 hat13 hcr13 hl13 HSRC2 HCR12 HO12 hset hnb e2 hop0 hM13 hr11
            rcases hcase with ⟨rfl, hsc⟩ | ⟨hx, t, t1, t2, hsc⟩
            · have HSC := Lib.hid hsc
              clear hsc
              go_wp2_with fail
              refine HSET.out.mono ?_
              rintro e w14 hdid
              obtain ⟨rfl, F14, FL14, rs14, hrs14, hcr14⟩ := HCR13.out.did hdid
              have hre := restart_low D w.heap.size F14 s14 A4 n4 c4 ks w14 hcr14.1 (H4.out.below hcr14.2.2.2.2.2.1) hcr14.2.2.2.2.2.1.size hcr14.2.2.2.1 HKS.out
              rw [HE2.out] at hre
              have HRE := Lib.hid hre; have HCR14 := Lib.hid hcr14
              clear hdid hrs14 hcr14 hre HSET
              go_wp2_with fail
              refine HRE.out.mono ?_
              rintro e w15 hdid
              obtain ⟨rfl, F15, FL15, rs15, hrs15, hcr15⟩ := HCR14.out.disk hdid
              have HOPN := Lib.hid (open_ok D F15 s2 nmLg w15 hcr15.1 (by decide) (by decide) (by omega) HOP0.out)
              have HCR15 := Lib.hid hcr15
              clear hdid hrs15 hcr15 HRE HCR14
              go_wp2_with fail
              refine HOPN.out.mono ?_
              rintro e w16 hopd
              obtain ⟨G16, rfl, F16, FL16, rs16, hrs16, hcr16⟩ := HCR15.out.opened hopd
              rw [HSC.out] at hrs16
              have hrl16 : rs16.length = M13 := by have := congrArg List.length hrs16; rw [HNL.out] at this; simpa only [recs, List.length_map] using this
              have HAL16 := Lib.hid (all_any G16 D FL16 nmLg rs16 w16 hcr16.2.1 (by have := HM13.out; omega))
              have HCR16 := Lib.hid hcr16; have HRS16 := Lib.hid hrs16
              clear hopd hrs16 hcr16 HOPN HCR15
              go_wp2_with fail
              refine HAL16.out.mono ?_
              rintro e w17 ⟨A17, n17, c17, ls17, rfl, hr17, he17, hb17⟩
              have hcr17 := HCR16.out.below hb17
              have k17 := hr17.rdl
              rw [he17, HRS16.out] at k17
              have kM := rows_rdl hcr17.2.2.2.2.2.2.2.1 (fun r hr => HOK.out w17 hcr17.2.2.2.2.2.1 r (by
                rcases List.mem_append.1 hr with hr | hr
                · exact List.mem_append_left _ (List.mem_of_mem_take (by simpa using hr))
                · exact List.mem_append_right _ (List.mem_append_right _ hr)))
              rw [show texts ([] ++ fr.take kk ++ tr) = (texts fr).take kk ++ texts tr by rw [texts_app, List.nil_append, texts_take]] at kM
              have HSA := Lib.hid (same_any A17 A13 n17 c17 M13 c13 _ w17 k17 kM)
              have HB17 := Lib.hid hcr17.2.2.2.2.2.1
              clear hr17 he17 hb17 hcr17 k17 kM HAL16
              go_wp2_with fail
              refine HSA.out.mono ?_
              rintro e w18 ⟨rfl, hb18⟩
              have HB18 := Lib.hid (HB17.out.trans (hb18.mono HB17.out.size))
              clear hb18
              go_wp2
              go_ret
              exact ⟨rfl, HB18.out⟩
            · have hxq9 : (x == 0) = false := by simpa using hx
              have HSC := Lib.hid hsc
              have HT := Lib.hid t1; have HT2 := Lib.hid t2
              clear hsc t1 t2
              go_wp2_with fail
              refine HSET.out.mono ?_
              rintro e w14 hdid
              obtain ⟨rfl, F14, FL14, rs14, hrs14, hcr14⟩ := HCR13.out.did hdid
              have hre := restart_low D w.heap.size F14 s14 A4 n4 c4 ks w14 hcr14.1 (H4.out.below hcr14.2.2.2.2.2.1) hcr14.2.2.2.2.2.1.size hcr14.2.2.2.1 HKS.out
              rw [HE2.out] at hre
              have HRE := Lib.hid hre; have HCR14 := Lib.hid hcr14
              clear hdid hrs14 hcr14 hre HSET
              go_wp2_with fail
              refine HRE.out.mono ?_
              rintro e w15 hdid
              obtain ⟨rfl, F15, FL15, rs15, hrs15, hcr15⟩ := HCR14.out.disk hdid
              have HOPN := Lib.hid (open_ok D F15 s2 nmLg w15 hcr15.1 (by decide) (by decide) (by omega) HOP0.out)
              have HCR15 := Lib.hid hcr15
              clear hdid hrs15 hcr15 HRE HCR14
              go_wp2_with fail
              refine HOPN.out.mono ?_
              rintro e w16 hopd
              obtain ⟨G16, rfl, F16, FL16, rs16, hrs16, hcr16⟩ := HCR15.out.opened hopd
              rw [HSC.out] at hrs16
              have hrl16 : rs16.length = t := by have := congrArg List.length hrs16; have h2 := HT2.out; simp only [recs, List.length_map, List.length_take] at this; omega
              have HAL16 := Lib.hid (all_any G16 D FL16 nmLg rs16 w16 hcr16.2.1 (by have h2 := HT2.out; rw [HALL.out] at h2; omega))
              have HCR16 := Lib.hid hcr16; have HRS16 := Lib.hid hrs16
              clear hopd hrs16 hcr16 HOPN HCR15
              go_wp2_with fail
              refine HAL16.out.mono ?_
              rintro e w17 ⟨A17, n17, c17, ls17, rfl, hr17, he17, hb17⟩
              have hcr17 := HCR16.out.below hb17
              have k17 := hr17.rdl
              rw [he17, HRS16.out] at k17
              have ht17 : t = n17 := by have := k17.1; have h2 := HT2.out; rw [List.length_take] at this; omega
              rw [ht17] at k17
              have kM := rows_rdl hcr17.2.2.2.2.2.2.1 (fun r hr => HOK.out w17 hcr17.2.2.2.2.2.1 r (by
                rcases List.mem_append.1 hr with hr | hr
                · exact List.mem_append_left _ hr
                · exact List.mem_append_right _ (List.mem_append_left _ hr)))
              rw [texts_app] at kM
              have HBG := Lib.hid (beginning_any A17 A10 n17 c17 m c10 m (texts fr ++ texts sr) w17 k17 kM (by have h1 := HT.out; have h2 := HK'.out; omega) (by have h2 := HT2.out; rw [HALL.out] at h2; omega))
              have HB17 := Lib.hid hcr17.2.2.2.2.2.1
              clear hr17 he17 hb17 hcr17 k17 kM HAL16 ht17 hrl16
              go_wp2_with fail
              refine HBG.out.mono ?_
              rintro e w18 ⟨rfl, hb18⟩
              have HB18 := Lib.hid (HB17.out.trans (hb18.mono HB17.out.size))
              clear hb18
              go_wp2
              go_ret
              exact ⟨rfl, HB18.out⟩
          · have hxq : (xs == 0) = false := by simpa using hx0
            have HK' := Lib.hid (show k' = i by rw [hk', HFL.out])
            clear hk'
            go_wp2_with fail
            refine HSY.out.mono ?_
            rintro e w11 hdid
            obtain ⟨rfl, F11, FL11, rs11, hrs11, hcr11⟩ := HCR7.out.disk hdid
            have HCR11 := Lib.hid hcr11; have HRS11 := Lib.hid (show recs rs11 = ls by rw [hrs11, HRS7.out])
            have HB11 := Lib.hid hcr11.2.2.2.2.2.1
            have hs11 := hcr11.2.2.2.2.2.1.size
            have HSRC := Lib.hid ((H1.out.below hcr11.2.2.2.2.2.1).rdv.upto hkn)
            clear hdid hrs11 hcr11 HSY HCR7 HO7
            go_wp2_with (at_builtin; go_must (refine wpList_appV _ rfl (.tmp 117) (.tmp 120) _ rfl w.heap.size w.heap.size _ i0 _ 24 Try.underlying22 HI.out HZ0.out HZ1.out HZ2.out rfl (.slice none 0 0) [] (OwnV.nil _ _ _) rfl A1 kk c1 ((fr.map Row.v).take kk) HSRC.out rfl (fun u hu => rows_one fr u (List.mem_of_mem_take hu)) (by simp; omega) (by simp; omega) hs11 ?_))
            intro v12 w12 hO12 hg12 hat12
            have hO12' : OwnV w12 w.heap.size 34 v12 (([] : List Row).map Row.v ++ (fr.take kk).map Row.v) := by simpa [List.map_take] using hO12
            have hcr12 := HCR11.out.push2 (zs := fr.take kk) hO12' hg12 hat12
            obtain ⟨A12, c12, hv12, -⟩ := hO12'.form
            have hl12 : (([] : List Row).map Row.v ++ (fr.take kk).map Row.v).length = kk := by have := HN1.out; simp; omega
            rw [hl12] at hv12
            subst hv12
            have HCR12 := Lib.hid hcr12
            have HO12 := Lib.hid hO12'
            have hs12 := hcr12.2.2.2.2.2.1.size
            have HSRC2 := Lib.hid ((H3.out.below hcr12.2.2.2.2.2.1).rdv)
            clear hO12 hO12' hg12 hat12 hcr12 hl12 HSRC HCR11
            go_wp2_with (at_builtin; go_must (refine wpList_appV _ rfl (.tmp 122) (.tmp 123) _ rfl w.heap.size w.heap.size _ i0 _ 24 Try.underlying22 HI.out HZ0.out HZ1.out HZ2.out rfl (.slice A12 kk c12) (([] : List Row).map Row.v ++ (fr.take kk).map Row.v) HO12.out rfl A3 n3 c3 (tr.map Row.v) HSRC2.out rfl (rows_one tr) (by have := HN3.out; have := HN1.out; simp; omega) (by have := HN3.out; have := HN1.out; simp; omega) hs12 ?_))
            intro v13 w13 hO13 hg13 hat13
            have hO13' : OwnV w13 w.heap.size 34 v13 (([] ++ fr.take kk).map Row.v ++ tr.map Row.v) := by simpa [List.map_take] using hO13
            have hcr13 := HCR12.out.push2 (zs := tr) hO13' hg13 hat13
            obtain ⟨A13, c13, hv13, -⟩ := hO13'.form
            have hl13 : (([] ++ fr.take kk).map Row.v ++ tr.map Row.v).length = kk + n3 := by have := HN1.out; have := HN3.out; simp; omega
            obtain ⟨M13, hM13⟩ : ∃ M13, kk + n3 = M13 := ⟨_, rfl⟩
            rw [hl13, hM13] at hv13
            subst hv13
            have HM13 := Lib.hid hM13
            have HNS1 := Lib.hid (show ∀ x ∈ (texts fr).take kk ++ texts tr, x.length ≤ 65535 from fun x hx => (List.mem_append.1 hx).elim (fun h => NL1.out x (List.mem_of_mem_take h)) (NL3.out x))
            have HNL := Lib.hid (show ((texts fr).take kk ++ texts tr).length = M13 by rw [List.length_append, List.length_take, HFL.out, HTL.out]; omega)
            have hnb : (M.frames ((texts fr).take kk ++ texts tr)).length ≤ 2000000 := by
              have := M.frames_bound _ HNS1.out
              rw [HNL.out] at this
              omega
            have HTK := Lib.hid (show (recs rs11).take kk = (texts fr).take kk by
              obtain ⟨r, r1, r2, r3, r4⟩ := HAM2.out.log
              rw [HRS11.out, r3, List.take_take, Nat.min_eq_left (by rw [HFL.out] at r1; omega), List.take_append_of_le_length (by rw [HFL.out]; omega)])
            have hr11 : rs11.length = ls.length := by have := congrArg List.length HRS11.out; simpa only [recs, List.length_map] using this
            have hset := set_any D G kk F11 FL11 _ nmLg rs11 A3 n3 c3 (texts tr) w13 hcr13.1 hcr13.2.1 hcr13.2.2.1 (by decide) (by show o' + 10 < _; omega) (by have := HLSL.out; omega) ((H3.out.below hcr13.2.2.2.2.2.1).rdl hcr13.2.2.2.2.2.1.size) NL3.out (by have := HLSL.out; omega)
            rw [HTK.out] at hset
            obtain ⟨s2, e2, o3, hop0, hcase⟩ := amid_end (o := o') (fu := fu') HAM2.out HLE2.out HAL.out HAB.out ((texts fr).take kk ++ texts tr) HNS1.out hnb ks hil2
            have HCR13 := Lib.hid hcr13
            have HSET := Lib.hid hset
            generalize replacedR (wu (lfO b') o' fu' off') nmLg (M.frames ((texts fr).take kk ++ texts tr)) = rr at *
            obtain ⟨x, s14⟩ := rr
            simp only at HSET e2 hcase
            generalize setLs x (recs rs11) ((texts fr).take kk ++ texts tr) = ls14 at *
            have HE2 := Lib.hid e2; have HOP0 := Lib.hid hop0
            have HOK := Lib.hid (show ∀ W, Below w.heap.size w W → ∀ r ∈ fr ++ (sr ++ tr), r.ok W W.heap.size from fun W hW r hr => by
              have : r.ok w w.heap.size := by
                rcases List.mem_append.1 hr with hr | hr
                · exact H1.out.2.2.2.1 r hr
                · rcases List.mem_append.1 hr with hr | hr
                  · exact H2.out.2.2.2.1 r hr
                  · exact H3.out.2.2.2.1 r hr
              exact Rd.more (Rd.below this hW) hW.size)
            clear hO13 hO13' hg13 hat13 hcr13 hl13 HSRC2 HCR12 HO12 hset hnb e2 hop0 hM13 hr11
            rcases hcase with ⟨rfl, hsc⟩ | ⟨hx, t, t1, t2, hsc⟩
            · have HSC := Lib.hid hsc
              clear hsc
              go_wp2_with fail
              refine HSET.out.mono ?_
              rintro e w14 hdid
              obtain ⟨rfl, F14, FL14, rs14, hrs14, hcr14⟩ := HCR13.out.did hdid
              have hre := restart_low D w.heap.size F14 s14 A4 n4 c4 ks w14 hcr14.1 (H4.out.below hcr14.2.2.2.2.2.1) hcr14.2.2.2.2.2.1.size hcr14.2.2.2.1 HKS.out
              rw [HE2.out] at hre
              have HRE := Lib.hid hre; have HCR14 := Lib.hid hcr14
              clear hdid hrs14 hcr14 hre HSET
              go_wp2_with fail
              refine HRE.out.mono ?_
              rintro e w15 hdid
              obtain ⟨rfl, F15, FL15, rs15, hrs15, hcr15⟩ := HCR14.out.disk hdid
              have HOPN := Lib.hid (open_ok D F15 s2 nmLg w15 hcr15.1 (by decide) (by decide) (by omega) HOP0.out)
              have HCR15 := Lib.hid hcr15
              clear hdid hrs15 hcr15 HRE HCR14
              go_wp2_with fail
              refine HOPN.out.mono ?_
              rintro e w16 hopd
              obtain ⟨G16, rfl, F16, FL16, rs16, hrs16, hcr16⟩ := HCR15.out.opened hopd
              rw [HSC.out] at hrs16
              have hrl16 : rs16.length = M13 := by have := congrArg List.length hrs16; rw [HNL.out] at this; simpa only [recs, List.length_map] using this
              have HAL16 := Lib.hid (all_any G16 D FL16 nmLg rs16 w16 hcr16.2.1 (by have := HM13.out; omega))
              have HCR16 := Lib.hid hcr16; have HRS16 := Lib.hid hrs16
              clear hopd hrs16 hcr16 HOPN HCR15
              go_wp2_with fail
              refine HAL16.out.mono ?_
              rintro e w17 ⟨A17, n17, c17, ls17, rfl, hr17, he17, hb17⟩
              have hcr17 := HCR16.out.below hb17
              have k17 := hr17.rdl
              rw [he17, HRS16.out] at k17
              have kM := rows_rdl hcr17.2.2.2.2.2.2.2.1 (fun r hr => HOK.out w17 hcr17.2.2.2.2.2.1 r (by
                rcases List.mem_append.1 hr with hr | hr
                · exact List.mem_append_left _ (List.mem_of_mem_take (by simpa using hr))
                · exact List.mem_append_right _ (List.mem_append_right _ hr)))
              rw [show texts ([] ++ fr.take kk ++ tr) = (texts fr).take kk ++ texts tr by rw [texts_app, List.nil_append, texts_take]] at kM
              have HSA := Lib.hid (same_any A17 A13 n17 c17 M13 c13 _ w17 k17 kM)
              have HB17 := Lib.hid hcr17.2.2.2.2.2.1
              clear hr17 he17 hb17 hcr17 k17 kM HAL16
              go_wp2_with fail
              refine HSA.out.mono ?_
              rintro e w18 ⟨rfl, hb18⟩
              have HB18 := Lib.hid (HB17.out.trans (hb18.mono HB17.out.size))
              clear hb18
              go_wp2
              go_ret
              exact ⟨rfl, HB18.out⟩
            · have hxq9 : (x == 0) = false := by simpa using hx
              have HSC := Lib.hid hsc
              have HT := Lib.hid t1; have HT2 := Lib.hid t2
              clear hsc t1 t2
              go_wp2_with fail
              refine HSET.out.mono ?_
              rintro e w14 hdid
              obtain ⟨rfl, F14, FL14, rs14, hrs14, hcr14⟩ := HCR13.out.did hdid
              have hre := restart_low D w.heap.size F14 s14 A4 n4 c4 ks w14 hcr14.1 (H4.out.below hcr14.2.2.2.2.2.1) hcr14.2.2.2.2.2.1.size hcr14.2.2.2.1 HKS.out
              rw [HE2.out] at hre
              have HRE := Lib.hid hre; have HCR14 := Lib.hid hcr14
              clear hdid hrs14 hcr14 hre HSET
              go_wp2_with fail
              refine HRE.out.mono ?_
              rintro e w15 hdid
              obtain ⟨rfl, F15, FL15, rs15, hrs15, hcr15⟩ := HCR14.out.disk hdid
              have HOPN := Lib.hid (open_ok D F15 s2 nmLg w15 hcr15.1 (by decide) (by decide) (by omega) HOP0.out)
              have HCR15 := Lib.hid hcr15
              clear hdid hrs15 hcr15 HRE HCR14
              go_wp2_with fail
              refine HOPN.out.mono ?_
              rintro e w16 hopd
              obtain ⟨G16, rfl, F16, FL16, rs16, hrs16, hcr16⟩ := HCR15.out.opened hopd
              rw [HSC.out] at hrs16
              have hrl16 : rs16.length = t := by have := congrArg List.length hrs16; have h2 := HT2.out; simp only [recs, List.length_map, List.length_take] at this; omega
              have HAL16 := Lib.hid (all_any G16 D FL16 nmLg rs16 w16 hcr16.2.1 (by have h2 := HT2.out; rw [HALL.out] at h2; omega))
              have HCR16 := Lib.hid hcr16; have HRS16 := Lib.hid hrs16
              clear hopd hrs16 hcr16 HOPN HCR15
              go_wp2_with fail
              refine HAL16.out.mono ?_
              rintro e w17 ⟨A17, n17, c17, ls17, rfl, hr17, he17, hb17⟩
              have hcr17 := HCR16.out.below hb17
              have k17 := hr17.rdl
              rw [he17, HRS16.out] at k17
              have ht17 : t = n17 := by have := k17.1; have h2 := HT2.out; rw [List.length_take] at this; omega
              rw [ht17] at k17
              have kM := rows_rdl hcr17.2.2.2.2.2.2.1 (fun r hr => HOK.out w17 hcr17.2.2.2.2.2.1 r (by
                rcases List.mem_append.1 hr with hr | hr
                · exact List.mem_append_left _ hr
                · exact List.mem_append_right _ (List.mem_append_left _ hr)))
              rw [texts_app] at kM
              have HBG := Lib.hid (beginning_any A17 A10 n17 c17 m c10 i (texts fr ++ texts sr) w17 k17 kM (by have h1 := HT.out; have h2 := HK'.out; omega) (by have h2 := HT2.out; rw [HALL.out] at h2; omega))
              have HB17 := Lib.hid hcr17.2.2.2.2.2.1
              clear hr17 he17 hb17 hcr17 k17 kM HAL16 ht17 hrl16
              go_wp2_with fail
              refine HBG.out.mono ?_
              rintro e w18 ⟨rfl, hb18⟩
              have HB18 := Lib.hid (HB17.out.trans (hb18.mono HB17.out.size))
              clear hb18
              go_wp2
              go_ret
              exact ⟨rfl, HB18.out⟩

theorem walCrashes_any (A1 A2 A3 A4 : Option Addr) (n1 c1 n2 c2 n3 c3 n4 c4 arm : Nat) (fr sr tr : List Row) (ks : List Int) (w : World) (h1 : RdRows w w.heap.size A1 n1 c1 fr) (h2 : RdRows w w.heap.size A2 n2 c2 sr) (h3 : RdRows w w.heap.size A3 n3 c3 tr) (ha : arm < 256)
    (h4 : RdV w w.heap.size A4 n4 c4 (ks.map (Value.int .i64))) (hks : ∀ k ∈ ks, -9223372036854775808 ≤ k ∧ k ≤ 9223372036854775807) :
    Calls Try.prog 3 #[.slice A1 n1 c1, .slice A2 n2 c2, .slice A3 n3 c3, .int .u8 (arm : Int), .slice A4 n4 c4] w (fun e w' => e = .returned (.bool true) ∧ Below w.heap.size w w') := by
  by_cases hx : 30 < n1 + n2 + n3 ∨ (fr.any fun r => decide (65535 < r.l.length)) = true ∨ (sr.any fun r => decide (65535 < r.l.length)) = true ∨ (tr.any fun r => decide (65535 < r.l.length)) = true
  · exact walCrashes_early A1 A2 A3 A4 n1 c1 n2 c2 n3 c3 n4 c4 arm fr sr tr ks w h1 h2 h3 ha h4 hks hx
  · exact walCrashes_main A1 A2 A3 A4 n1 c1 n2 c2 n3 c3 n4 c4 arm fr sr tr ks w h1 h2 h3 ha h4 hks (fun h => hx (.inl h)) (by cases g : fr.any fun r => decide (65535 < r.l.length) with | false => rfl | true => exact absurd (.inr (.inl g)) hx) (by cases g : sr.any fun r => decide (65535 < r.l.length) with | false => rfl | true => exact absurd (.inr (.inr (.inl g))) hx) (by cases g : tr.any fun r => decide (65535 < r.l.length) with | false => rfl | true => exact absurd (.inr (.inr (.inr g))) hx)
end Go.Proofs.Ytbhginnfkmajgaa
