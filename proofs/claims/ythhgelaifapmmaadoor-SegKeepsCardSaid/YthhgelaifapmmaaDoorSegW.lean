/-
  What the document's Posts does, by a contract; the law SegTerms.
-/
import Derived.Test.YthhgelaifapmmaaDoorSegV
namespace Go.Proofs.YthhgelaifapmmaaDoor.M
theorem raw_kind (s : List UInt8) : ∀ (ws : List W) (p : Option W), (∀ x ∈ ws, IsWord x.text) → ∀ t ∈ raw s p ws, IsWord t ∨ (61 : UInt8) ∈ t
  | [], p, _, t, ht => by cases p <;> simp [raw] at ht
  | w :: r, none, hw, t, ht => by
    rw [raw] at ht
    rcases List.mem_cons.1 ht with rfl | ht
    · exact .inl (hw w (by simp))
    · exact raw_kind s r (some w) (fun x hx => hw x (by simp [hx])) t ht
  | w :: r, some p, hw, t, ht => by
    rw [raw] at ht
    rcases List.mem_cons.1 ht with rfl | ht
    · exact .inl (hw w (by simp))
    · rcases List.mem_append.1 ht with ht | ht
      · split at ht
        · rw [List.mem_singleton] at ht
          subst ht
          exact .inr (by simp)
        · simp at ht
      · exact raw_kind s r (some w) (fun x hx => hw x (by simp [hx])) t ht
/-- the text that is no term of any: no such term -/
def noTerm : T := [110, 111, 32, 115, 117, 99, 104, 32, 116, 101, 114, 109]
theorem noTerm_run : run 32 noTerm = 2 := by decide +kernel
theorem noTerm_not (s : List UInt8) : noTerm ∉ terms s := by
  intro h
  rcases raw_kind s (words s) none (fun x hx => (words_all s 0 x hx).1) noTerm ((mem_gather _ _).1 h) with h1 | h1
  · have := h1.2.1
    rw [noTerm_run] at this
    exact absurd this (by decide)
  · exact absurd h1 (by decide)
theorem noTerm_posts (ds : List D) : posts ds noTerm = [] := by
  by_cases h : posts ds noTerm = []
  · exact h
  · obtain ⟨d, _, hd⟩ := mem_posts.1 h
    exact absurd hd (noTerm_not _)
theorem postsTo_len (ds : List D) (i : Nat) (t : T) : (postsTo ds i t).length ≤ i := by
  unfold postsTo
  rw [List.length_map]
  exact Nat.le_trans (List.length_filter_le _ _) (by simp)
theorem postsIn_len (ds : List D) (i k : Nat) (ts : List T) (t : T) : (postsIn ds i k ts t).length ≤ i + 1 := by
  unfold postsIn
  have := postsTo_len ds i t
  rw [List.length_append]
  split <;> simp <;> omega
end Go.Proofs.YthhgelaifapmmaaDoor.M
namespace Go.Proofs.YthhgelaifapmmaaDoor
open Go.RowKit Mem Go.ChangeShapes Go.Sort
set_option linter.unusedVariables false
set_option maxRecDepth 100000

theorem RdV.kept {w w' : World} {B n c : Nat} {A : Option Addr} {xs : List Value} {row : Option Nat} (h : RdV w B A n c xs) (hg : w.grownBy w' row) (hB : B ≤ w.heap.size) (hne : ∀ b off, A = some ⟨b, off, none⟩ → 0 < n → some b ≠ row) : RdV w' B A n c xs :=
  ⟨h.1, h.2.1, h.2.2.1, fun hn => by
    obtain ⟨b, off, e, hb, hc⟩ := h.2.2.2 hn
    exact ⟨b, off, e, hb, fun j hj => (World.cell?_of_block (a := ⟨b, off + j, none⟩) (hg.block b (by omega) (hne b off e hn))).trans (hc j hj)⟩⟩

set_option maxHeartbeats 4000000 in
theorem refPosts_any (A : Option Addr) (n c : Nat) (ds : List M.D) (t : List UInt8) (w : World) (h : RdDocs w w.heap.size A n c ds) (hn : n ≤ 4096) (htx : ∀ d ∈ ds, d.text.length ≤ 512) (hT : Tabs w) :
    Calls Tryd.prog 26 #[.slice A n c, .string ⟨t.toArray⟩] w (GivesI w (M.posts ds t)) := by
  obtain ⟨i0, hi0, hz0, hz1, hz2⟩ := Tryd.info_int
  have HI := Lib.hid hi0; have HZ0 := Lib.hid hz0; have HZ1 := Lib.hid hz1; have HZ2 := Lib.hid hz2
  clear hi0 hz0 hz1 hz2
  have H := Lib.hid h; have HN := Lib.hid h.1; have HTX := Lib.hid htx; have HT := Lib.hid hT
  have hc := h.2.1; have hcm := h.2.2.1
  clear h htx hT
  go_enter Tryd.func26, Tryd.ntmps26
  go_wp2
  go_loopw [5, 6] (fun f p wr => ∃ i : Nat, p = .int .i64 i ∧ i ≤ n ∧ Hid (OwnV wr w.heap.size 3 f (ints (M.postsTo ds i t))) ∧ Hid (Below w.heap.size w wr)) (fun _ p _ => n - (intOf p).toNat)
  case atStart => exact ⟨0, rfl, Nat.zero_le _, Lib.hid (OwnV.nil _ _ _), Lib.hid (Below.refl _ _)⟩
  case round =>
    obtain ⟨i, rfl, hi, HO, HW⟩ := hrel
    rename World => wr
    by_cases hlt : i < n
    · have hkx : i < ds.length := by have := HN.out; omega
      obtain ⟨db, off, rfl, hdb, hcells⟩ := H.out.2.2.2 (by omega)
      have q2 := cell_on HW.out (hcells i hkx).2.2
      have hil : (i : Int) < (n : Int) := by omega
      have htl := HTX.out _ (List.getElem_mem hkx)
      have HC := Lib.hid (ref_terms_new ⟨ds[i].text.toArray⟩ wr (by show ds[i].text.length ≤ _; omega) (by show ds[i].text.length ≤ _; omega) (HT.out.below HW.out))
      have hbl2 : ∀ x : List UInt8, bl ⟨x.toArray⟩ = x := fun x => rfl
      simp only [hbl2] at HC
      have HALL := Lib.hid (fun k hk => M.postsIn_all hkx k hk)
      have HRISE := Lib.hid (M.terms_rising ds[i].text)
      clear hcells htl hbl2
      generalize ds[i].text = dtx at *
      generalize M.terms dtx = ts at *
      obtain ⟨fA, fc, rfl, hfc, hfm⟩ := HO.out.form
      rw [ints_len] at hfc ⊢
      have HO' := Lib.hid HO.out
      rw [ints_len] at HO'
      clear HO
      go_wp2_with fail
      refine HC.out.mono ?_
      rintro e w2 ⟨A2, c2, rfl, hr2, hb2, hn2⟩
      obtain ⟨m, hm⟩ : ∃ m, ts.length = m := ⟨_, rfl⟩
      have HM := Lib.hid hm
      rw [hm] at hr2 hn2 ⊢
      have hc2 := hr2.2.1; have hcm2 := hr2.max
      have HR2 := Lib.hid hr2
      have HNE := Lib.hid (show ∀ b off, A2 = some ⟨b, off, none⟩ → 0 < m → wr.heap.size ≤ b ∧ b < w2.heap.size from fun b off e h0 => by
        obtain ⟨b', off', e', hle⟩ := hn2 h0
        obtain ⟨b'', off'', e'', hlt', _⟩ := hr2.2.2.2 h0
        rw [e] at e' e''
        injection e' with e'; injection e' with e1
        injection e'' with e''; injection e'' with e3
        omega)
      have HO2 := Lib.hid (show OwnV w2 w.heap.size 3 (.slice fA (M.postsTo ds i t).length fc) (ints (M.postsIn ds i 0 ts t)) by rw [M.postsIn_zero]; exact HO'.out.below hb2)
      have HFB := Lib.hid (show ∀ g, (Value.slice fA (M.postsTo ds i t).length fc).ownBlock = some g → g < wr.heap.size ∨ w2.heap.size ≤ g from fun g hg => .inl (HO'.out.lt g hg).2)
      have HB2 := Lib.hid (HW.out.trans (hb2.mono HW.out.size))
      clear hr2 hn2 hm hb2 HC HO'
      go_wp2
      go_loopw [5, 8] (fun f p wi => ∃ k : Nat, p = .int .i64 k ∧ k ≤ m ∧ Hid (OwnV wi w.heap.size 3 f (ints (M.postsIn ds i k ts t))) ∧ Hid (RdV wi w2.heap.size A2 m c2 (strs ts)) ∧ Hid (∀ g, f.ownBlock = some g → g < wr.heap.size ∨ w2.heap.size ≤ g) ∧ Hid (Below w.heap.size w wi) ∧ Hid (w2.heap.size ≤ wi.heap.size)) (fun _ p _ => m - (intOf p).toNat)
      case atStart => exact ⟨0, rfl, Nat.zero_le _, HO2, HR2, HFB, HB2, Lib.hid (Nat.le_refl _)⟩
      case round =>
        obtain ⟨k, rfl, hk, HOk, HRk, HFk, HBk, HSk⟩ := hrel
        rename World => wi
        obtain ⟨kA, kc, hkv, hkc, hkm⟩ := HOk.out.form
        subst hkv
        rw [ints_len] at hkc ⊢
        by_cases hlt2 : k < m
        · have hkx2 : k < ts.length := by rw [HM.out]; exact hlt2
          obtain ⟨tb, off2, rfl, htb, q⟩ := HRk.out.at_ hlt2
          rw [strs_at hkx2] at q
          have hkl : (k : Int) < (m : Int) := by omega
          have HNX := Lib.hid (M.postsIn_next (ds := ds) (i := i) HRISE.out hkx2 t)
          have HTB := Lib.hid (HNE.out tb off2 rfl (by omega))
          by_cases he : t = ts[k]
          · have HN2 := Lib.hid (show M.postsIn ds i (k + 1) ts t = M.postsIn ds i k ts t ++ [(i : Int)] by rw [HNX.out, if_pos he])
            have hq2 : (ts[k] == t) = true := by rw [beq_str]; simp [he]
            have HLN := Lib.hid (M.postsIn_len ds i k ts t)
            have HFK2 := HFk
            rw [ints_len] at HFK2
            have HOK2 := Lib.hid HOk.out
            rw [ints_len] at HOK2
            clear HNX he HOk HFk
            generalize ts[k] = y at *
            generalize M.postsIn ds i k ts t = acc at *
            go_wp2_with (at_builtin; go_must (refine wpList_appV _ rfl (.tmp 33) (.tmp 35) _ rfl w.heap.size (wi.heap.size + 1) 3 i0 (.int .i64 0) 8 Tryd.underlying42 HI.out HZ0.out HZ1.out HZ2.out rfl (.slice kA acc.length kc) (ints acc) (HOK2.out.alloc _) rfl (some ⟨wi.heap.size, 0, none⟩) 1 1 [.int .i64 (i : Int)] (RdV.fresh wi _ _) rfl (by simp [Value.oneCell']) (by rw [ints_len]; have := HLN.out; simp; omega) (by rw [ints_len]; have := HLN.out; simp; omega) (by have := HBk.out.size; simp; omega) ?_))
            intro v3 w3 hown3 hg3 hat3
            have hb3 : Below w.heap.size w w3 := (HBk.out.alloc HBk.out.size _).grown hg3 (by have := HBk.out.size; simp; omega) (fun k' hk' => (HOK2.out.lt k' hk').1)
            have hsz3 : wi.heap.size + 1 ≤ w3.heap.size := by have := hg3.size; simpa using this
            have HO3 := Lib.hid (show OwnV w3 w.heap.size 3 v3 (ints (M.postsIn ds i (k + 1) ts t)) by
              rw [HN2.out, ints_app]
              exact hown3)
            have HR3 := Lib.hid (RdV.kept (RdV.below HRk.out ((Below.refl w2.heap.size wi).alloc HSk.out _)) hg3 (Nat.le_trans HSk.out (by simp)) (fun b o e h0 e2 => by
              have h1 := HNE.out b o e h0
              have h2 := HFK2.out b e2.symm
              omega))
            have HF3 := Lib.hid (show ∀ g, v3.ownBlock = some g → g < wr.heap.size ∨ w2.heap.size ≤ g from fun g hg => by
              rcases hat3 with e | e
              · exact HFK2.out g (e ▸ hg)
              · rw [e] at hg
                injection hg with hg
                have := HSk.out
                omega)
            have HB3 := Lib.hid hb3
            have HS3 := Lib.hid (show w2.heap.size ≤ w3.heap.size by have := HSk.out; omega)
            clear hown3 hg3 hat3 hb3
            go_wp2
            go_roundw
            case rel => exact ⟨k + 1, by go_num, by omega, HO3, HR3, HF3, HB3, HS3⟩
            case measure => simp [intOf]; omega
          · have HN2 := Lib.hid (show M.postsIn ds i (k + 1) ts t = M.postsIn ds i k ts t by rw [HNX.out, if_neg he])
            have hq2 : (ts[k] == t) = false := by rw [beq_str, decide_eq_false_iff_not]; exact fun e => he e.symm
            have HO3 := Lib.hid HOk.out
            rw [← HN2.out] at HO3
            have HF3 := Lib.hid HFk.out
            rw [ints_len] at HO3 HF3
            rw [HN2.out] at HO3
            clear HNX he HOk HFk
            generalize ts[k] = y at *
            go_wp2
            go_roundw
            case rel => exact ⟨k + 1, by go_num, by omega, by rw [HN2.out]; exact HO3, HRk, HF3, HBk, HSk⟩
            case measure => simp [intOf]; omega
        · obtain rfl : k = m := by omega
          have HE := Lib.hid (show M.postsIn ds i k ts t = M.postsTo ds (i + 1) t by rw [HALL.out k (by rw [HM.out]; exact Nat.le_refl _)])
          have HO3 := Lib.hid HOk.out
          rw [ints_len] at HO3
          clear HOk HFk
          go_wp2
          go_roundw
          case rel => exact ⟨i + 1, by go_num, by omega, by rw [← HE.out]; exact HO3, HBk⟩
          case measure => simp [intOf]; omega
    · obtain rfl : i = n := by omega
      have HE := Lib.hid (show M.postsTo ds i t = M.posts ds t by rw [HN.out]; rfl)
      obtain ⟨fA, fc, rfl, hfc, hfm⟩ := HO.out.form
      go_wp2
      go_ret
      exact ⟨_, rfl, by rw [← HE.out]; exact HO.out, HW.out⟩
end Go.Proofs.YthhgelaifapmmaaDoor
