/-
  What the document's Sync and Read do, by contracts.
-/
import Derived.Test.YtglfbigklnaegaaRefB
namespace Go.Proofs.Ytglfbigklnaegaa
open Go.RowKit Mem FM
set_option linter.unusedVariables false
set_option maxRecDepth 100000
variable {K : Nat → Prop}

theorem set_idx {Y : Type} {fs : List (File Y)} {n : List UInt8} {i : Nat} (hr : Rise fs) (hi : i < fs.length) (he : fs[i].name = n) (hh : File Y → File Y) : FM.set n hh fs = fs.set i (hh fs[i]) := by
  unfold FM.set
  apply List.ext_getElem
  · simp
  · intro j h1 h2
    have hj : j < fs.length := by simpa using h1
    rw [List.getElem_map, List.getElem_set]
    by_cases e : i = j
    · subst e; rw [if_pos rfl, if_pos he]
    · rw [if_neg e, if_neg]
      intro hn
      rcases Nat.lt_or_gt_of_ne e with hlt | hlt
      · have := (List.pairwise_iff_getElem.1 hr) i j hi hj hlt
        rw [he, hn] at this
        exact lt_irrefl _ this
      · have := (List.pairwise_iff_getElem.1 hr) j i hj hi hlt
        rw [he, hn] at this
        exact lt_irrefl _ this
theorem bare_upd (fs : List (File Sl)) (i : Nat) (f : File Sl) : bare (fs.set i f) = (bare fs).set i f.bare := by unfold bare; rw [List.map_set]
theorem rise_upd {fs : List (File Sl)} {i : Nat} {f : File Sl} (hr : Rise fs) (hi : i < fs.length) (hn : f.name = fs[i].name) : Rise (fs.set i f) := by
  unfold Rise at *
  rw [List.pairwise_iff_getElem] at *
  intro a b ha hb hab
  have ha' : a < fs.length := by simpa using ha
  have hb' : b < fs.length := by simpa using hb
  have e : ∀ j (hj : j < fs.length), ((fs.set i f)[j]'(by simpa using hj)).name = fs[j].name := fun j hj => by
    rw [List.getElem_set]
    by_cases q : i = j
    · subst q; rw [if_pos rfl, hn]
    · rw [if_neg q]
  rw [e a ha', e b hb']
  exact hr a b ha' hb' hab
theorem rcells_upd : ∀ (fs : List (File Sl)) (i : Nat) (hi : i < fs.length) (f : File Sl), f.name = fs[i].name → rcells (fs.set i f) = ((rcells fs).set (i * 3 + 1) (.slice f.x.A f.data.length f.x.c)).set (i * 3 + 2) (.int .i64 (f.sure : Int)) := by
  intro fs
  induction fs with
  | nil => intro i hi; simp at hi
  | cons a r ih =>
    intro i hi f hf
    have e : rcells (a :: r) = .string ⟨a.name.toArray⟩ :: .slice a.x.A a.data.length a.x.c :: .int .i64 (a.sure : Int) :: rcells r := rfl
    cases i with
    | zero =>
      simp only [List.getElem_cons_zero] at hf
      rw [e]
      show rcell f ++ rcells r = _
      simp [rcell, hf]
    | succ j =>
      have := ih j (by simpa using hi) f (by simpa using hf)
      rw [e, show (j + 1) * 3 + 1 = (j * 3 + 1) + 3 by omega, show (j + 1) * 3 + 2 = (j * 3 + 2) + 3 by omega]
      show rcell a ++ rcells (r.set j f) = _
      rw [this]
      rfl

theorem set_get {α : Type} {l : List α} {j : Nat} {u : α} (h : l[j]? = some u) : l.set j u = l := by
  obtain ⟨hj, e⟩ := List.getElem?_eq_some_iff.1 h
  subst e
  simp
theorem rcells_sure (fs : List (File Sl)) (i : Nat) (hi : i < fs.length) (k : Nat) : (rcells fs).set (i * 3 + 2) (.int .i64 (k : Int)) = rcells (fs.set i ⟨fs[i].name, fs[i].data, k, fs[i].x⟩) := by
  rw [rcells_upd fs i hi ⟨fs[i].name, fs[i].data, k, fs[i].x⟩ rfl, set_get (rcells_at hi).2.1]
theorem rcells_data (fs : List (File Sl)) (i : Nat) (hi : i < fs.length) (d : List UInt8) (x : Sl) : (rcells fs).set (i * 3 + 1) (.slice x.A d.length x.c) = rcells (fs.set i ⟨fs[i].name, d, fs[i].sure, x⟩) := by
  rw [rcells_upd fs i hi ⟨fs[i].name, d, fs[i].sure, x⟩ rfl]
  refine (set_get ?_).symm
  rw [List.getElem?_set_ne (by omega)]
  exact (rcells_at hi).2.2
theorem RefF.drewed {w : World} {F : Nat → Prop} {X : Nat} {v : Value} {fs : List (File Sl)} {s : St} (h : RefF K w F X v fs s) : RefF K w.drew F X v fs s := h.below ⟨rfl, rfl, rfl, Nat.le_refl _, fun _ _ => rfl⟩

/-- one file has turned, in its place -/
theorem RefF.upd {w : World} {F : Nat → Prop} {X g n c i j : Nat} {fs : List (File Sl)} {s : St} {f : File Sl} {u : Value} (h : RefF K w F X (.slice (some ⟨g, 0, none⟩) n c) fs s) (hi : i < fs.length) (hn : f.name = fs[i].name)
    (hu : (rcells fs).set j u = rcells (fs.set i f)) (hf : Steady K F w f.x.A f.data.length f.x.c f.data) (hsu : f.sure ≤ f.data.length) (hus : used (fs.set i f) ≤ s.room) :
    RefF K (w.setCell ⟨g, j, none⟩ u) F X (.slice (some ⟨g, 0, none⟩) n c) (fs.set i f) ⟨s.room, bare (fs.set i f), s.ops, s.fuse, s.off⟩ ∧ Turned F w (w.setCell ⟨g, j, none⟩ u) := by
  have hne : g ≠ X := h.ne rfl
  obtain ⟨h1, h2, h3, h4, h5, h6, h7, h8, h9⟩ := h
  have hFg : F g := h4 g rfl
  have hT : Turned F w (w.setCell ⟨g, j, none⟩ u) := (Turned.refl F w).setCell (p := ⟨g, j, none⟩) (.inl hFg) u
  have hnn : fs.length = n := by
    rcases h3.2 with ⟨e1, _⟩ | ⟨g', cap', cur', e1, _⟩
    · cases e1
    · injection e1 with _ e2 _; exact e2.symm
  refine ⟨⟨(heapFar h1 (fun e => hne e.symm)).trans rfl, h2, ?_, h4, rfl, rise_upd h6 hi hn, fun y hy => ?_, ⟨by rw [bare_used]; exact hus, h8.2.1, h8.2.2.1, h8.2.2.2.1, by simpa using h8.2.2.2.2⟩, fun k hk => by simpa [World.setCell] using h9 k hk⟩, hT⟩
  · have h3' := h3
    rw [hnn] at h3'
    have := (World.ownsRow.stored h3' j u).1
    rw [hu] at this
    simpa [hnn] using this
  · rcases List.mem_or_eq_of_mem_set hy with hy | rfl
    · exact ⟨(h7 y hy).1.step hT (Spread.refl _ _), (h7 y hy).2⟩
    · exact ⟨hf.step hT (Spread.refl _ _), hsu⟩
theorem used_upd {fs : List (File Sl)} {i : Nat} {f : File Sl} (hi : i < fs.length) : used (fs.set i f) + fs[i].data.length = used fs + f.data.length := by
  induction fs generalizing i with
  | nil => simp at hi
  | cons a r ih =>
    cases i with
    | zero => simp [used]; omega
    | succ j =>
      have := ih (i := j) (by simpa using hi)
      simp only [used, List.set_cons_succ, List.map_cons, List.sum_cons, List.getElem_cons_succ] at this ⊢
      omega

set_option maxHeartbeats 2000000 in
theorem ref_sync_any (X : Nat) (F : Nat → Prop) (s : St) (nm : ByteArray) (w : World) (h : RefAt K w F X s) (hs : nm.size ≤ 9223372036854775807) (ho : s.ops + 1 < 1099511627776) :
    Calls Try.prog 19 #[.pointer (some ⟨X, 0, none⟩), .string nm] w (RDid K F X (synced s nm).1 (synced s nm).2 w) := by
  obtain ⟨v, fs, hR⟩ := h
  have HR := Lib.hid hR
  have HTH := Lib.hid (ref_there_any X F v fs s nm w hR hs)
  have HE := Lib.hid (show thereE s nm = if ready1 nm s.off = 0 then (match find nm.data.toList s.files with | none => 8 | some _ => 0) else ready1 nm s.off from rfl)
  have HS := Lib.hid (show synced s nm = if ready1 nm s.off = 0 then withSync s nm else (ready1 nm s.off, s) from rfl)
  have HF := Lib.hid (show find nm.data.toList s.files = (find nm.data.toList fs).map File.bare by rw [← hR.2.2.2.2.1, bare_find])
  have HSAME := Lib.hid (show ∀ x : Int, RDid K F X x s w (.returned (.int .i64 x)) w from fun x => ⟨rfl, F, ⟨v, fs, hR⟩, Turned.refl _ _, Spread.refl _ _⟩)
  clear hR
  by_cases hr : ready1 nm s.off = 0
  · rcases place_find (n := nm.data.toList) (fs := fs) with ⟨hf, hp⟩ | ⟨i, hi, hf, hp, hnm⟩
    · have HX := Lib.hid (show thereE s nm = 8 by rw [HE.out, if_pos hr, HF.out, hf]; rfl)
      have HY := Lib.hid (show synced s nm = (8, s) by rw [HS.out, if_pos hr]; unfold withSync; rw [HF.out, hf]; rfl)
      rw [HX.out] at HTH
      clear hf hp hr
      go_enter Try.func19, Try.ntmps19
      go_wp2_with fail
      refine HTH.out.mono ?_
      rintro e w1 ⟨rfl, rfl⟩
      go_wp2
      go_ret
      rw [HY.out]
      exact HSAME.out 8
    · have HX := Lib.hid (show thereE s nm = 0 by rw [HE.out, if_pos hr, HF.out, hf]; rfl)
      have hoff : s.off = false := by
        unfold ready1 at hr
        cases hq : s.off
        · rfl
        · rw [hq] at hr; split at hr <;> simp at hr
      have HOP := Lib.hid (ref_op_any X F v fs s w HR.out ho)
      rw [HX.out] at HTH
      by_cases h1 : s.fuse = 1
      · have HY := Lib.hid (show synced s nm = (10, s.op s.files) by rw [HS.out, if_pos hr]; unfold withSync; rw [HF.out, hf]; simp [h1])
        rw [hoff, h1] at HOP
        clear hf hp hr h1 hoff
        go_enter Try.func19, Try.ntmps19
        go_wp2_with fail
        refine HTH.out.mono ?_
        rintro e w1 ⟨rfl, rfl⟩
        go_wp2_with fail
        refine HOP.out.mono ?_
        rintro e w2 ⟨rfl, hR2, ht2⟩
        go_wp2
        go_ret
        rw [HY.out]
        exact ⟨rfl, F, ⟨v, fs, hR2⟩, ht2.more (fun k _ hk => by subst hk; exact HR.out.2.1), Spread.refl _ _⟩
      · have HY := Lib.hid (show synced s nm = (0, s.op (FM.set nm.data.toList (fun _ => ⟨fs[i].name, fs[i].data, fs[i].data.length, ()⟩) s.files)) by
          rw [HS.out, if_pos hr]; unfold withSync; rw [HF.out, hf]; simp [h1, File.bare])
        have hb : (s.fuse == 1) = false := by simpa using h1
        rw [hoff, hb] at HOP
        have HPL := Lib.hid hp
        have HNM := Lib.hid hnm
        obtain ⟨A, c, hv, hc, hcm⟩ := HR.out.form
        subst hv
        obtain ⟨g, hA, _⟩ := HR.out.at_ hi
        subst hA
        clear hf hp hr h1 hoff hb hnm
        go_enter Try.func19, Try.ntmps19
        go_wp2_with fail
        refine HTH.out.mono ?_
        rintro e w1 ⟨rfl, rfl⟩
        go_wp2_with fail
        refine HOP.out.mono ?_
        rintro e w2 ⟨rfl, hR2, ht2⟩
        have hat := ref_at_any X F _ fs _ nm w2 hR2
        rw [HPL.out] at hat
        have HAT := Lib.hid hat
        have HR2 := Lib.hid hR2; have HT2 := Lib.hid (ht2.more (F' := F) (fun k _ hk => by subst hk; exact HR.out.2.1))
        have c0 := hR2.1.c0
        obtain ⟨g', e', hg, _, _, q0, q1, q2⟩ := hR2.at_ hi
        injection e' with e'
        injection e' with e' _ _
        subst e'
        have hfz : w2.frozen? ⟨g, i * 3 + 2, none⟩ = false := by
          obtain ⟨cur, hh⟩ := row_type hR2.2.2.1 rfl
          exact freeAt _ hh
        clear hR2 ht2 hat
        obtain ⟨nf, hnf⟩ : ∃ nf, fs.length = nf := ⟨_, rfl⟩
        have HNF := Lib.hid hnf
        have hin : (i : Int) < (nf : Int) := by omega
        rw [hnf] at hc c0
        obtain ⟨L, hL⟩ : ∃ L, fs[i].data.length = L := ⟨_, rfl⟩
        have HL := Lib.hid hL
        rw [hL] at q1
        clear hnf hL
        go_wp2_with fail
        refine HAT.out.mono ?_
        rintro e w3 ⟨rfl, rfl⟩
        go_wp2_with fail
        go_still_tail 16, (by kernel_rfl)
        change wpList _ _ _ _ _ w3.drew
        have hup := HR2.out.drewed.upd (i := i) (j := i * 3 + 2) (f := ⟨fs[i].name, fs[i].data, fs[i].data.length, fs[i].x⟩) hi rfl (rcells_sure fs i hi _) ((HR2.out.drewed.2.2.2.2.2.2.1 fs[i] (List.getElem_mem hi)).1) (Nat.le_refl _) (by
          have h1 := used_upd (f := (⟨fs[i].name, fs[i].data, fs[i].data.length, fs[i].x⟩ : File Sl)) hi
          have h2 : used fs ≤ s.room := by have := HR.out.2.2.2.2.2.2.2.1.1; rwa [← HR.out.2.2.2.2.1, bare_used] at this
          show _ ≤ s.room
          simp only at h1
          omega)
        rw [HL.out] at hup
        have HUP := Lib.hid hup
        have q1' : w3.drew.cell? ⟨g, i * 3 + 1, none⟩ = some (.slice fs[i].x.A L fs[i].x.c) := q1
        have hfz' : w3.drew.frozen? ⟨g, i * 3 + 2, none⟩ = false := hfz
        have q2' : w3.drew.cell? ⟨g, i * 3 + 2, none⟩ = some (.int .i64 (fs[i].sure : Int)) := q2
        have HTD := Lib.hid (show Turned F w1 w3.drew from HT2.out.drew)
        have HBR := Lib.hid (show bare (fs.set i ⟨fs[i].name, fs[i].data, L, fs[i].x⟩) = FM.set nm.data.toList (fun _ => ⟨fs[i].name, fs[i].data, fs[i].data.length, ()⟩) s.files by
          have hb : (bare fs)[i]? = some fs[i].bare := by unfold bare; rw [List.getElem?_map, List.getElem?_eq_getElem hi]; rfl
          have hri : Rise (bare fs) := by
            unfold Rise bare
            exact List.pairwise_map.2 HR.out.2.2.2.2.2.1
          have hib : i < (bare fs).length := by simpa [bare] using hi
          rw [← HR.out.2.2.2.2.1, set_idx hri hib (by simpa [bare, File.bare] using HNM.out), bare_upd, HL.out]
          rfl)
        clear q1 q2 hfz hup
        generalize w3.drew = w4 at *
        go_wp2
        go_ret
        rw [HY.out]
        have hfin := HUP.out.1
        rw [HBR.out] at hfin
        exact ⟨rfl, F, ⟨_, _, hfin⟩, HTD.out.trans HUP.out.2, Spread.refl _ _⟩
  · have HX := Lib.hid (show thereE s nm = ready1 nm s.off by rw [HE.out, if_neg hr])
    have HY := Lib.hid (show synced s nm = (ready1 nm s.off, s) by rw [HS.out, if_neg hr])
    rw [HX.out] at HTH
    have hq : (ready1 nm s.off != 0) = true := by simpa using hr
    generalize ready1 nm s.off = rr at *
    clear hr
    go_enter Try.func19, Try.ntmps19
    go_wp2_with fail
    refine HTH.out.mono ?_
    rintro e w1 ⟨rfl, rfl⟩
    go_wp2
    go_ret
    rw [HY.out]
    exact HSAME.out rr

/-- the bytes and the answer; nothing has turned -/
def RReadOf (K F : Nat → Prop) (r : List UInt8 × Int) (w : World) (e : Ending) (w' : World) : Prop := ∃ A c, e = .returned (.tuple #[.slice A r.1.length c, .int .i64 r.2]) ∧ Steady K F w' A r.1.length c r.1 ∧ Below w.heap.size w w'

set_option maxHeartbeats 2000000 in
theorem ref_read_any (X : Nat) (F : Nat → Prop) (s : St) (nm : ByteArray) (w : World) (h : RefAt K w F X s) (hs : nm.size ≤ 9223372036854775807) :
    Calls Try.prog 24 #[.pointer (some ⟨X, 0, none⟩), .string nm] w (RReadOf K F (readR s nm) w) := by
  obtain ⟨v, fs, hR⟩ := h
  have HR := Lib.hid hR
  have HTH := Lib.hid (ref_there_any X F v fs s nm w hR hs)
  have HE := Lib.hid (show thereE s nm = if ready1 nm s.off = 0 then (match find nm.data.toList s.files with | none => 8 | some _ => 0) else ready1 nm s.off from rfl)
  have HS := Lib.hid (show readR s nm = if ready1 nm s.off = 0 then (match find nm.data.toList s.files with | none => ([], 8) | some f => (f.data, 0)) else ([], ready1 nm s.off) from rfl)
  have HF := Lib.hid (show find nm.data.toList s.files = (find nm.data.toList fs).map File.bare by rw [← hR.2.2.2.2.1, bare_find])
  have HNIL := Lib.hid (show Steady K F w none 0 0 [] from fun w' _ => Rd.empty (by simp [maxLen]))
  clear hR
  by_cases hr : ready1 nm s.off = 0
  · rcases place_find (n := nm.data.toList) (fs := fs) with ⟨hf, hp⟩ | ⟨i, hi, hf, hp, hnm⟩
    · have HX := Lib.hid (show thereE s nm = 8 by rw [HE.out, if_pos hr, HF.out, hf]; rfl)
      have HY := Lib.hid (show readR s nm = ([], 8) by rw [HS.out, if_pos hr, HF.out, hf]; rfl)
      rw [HX.out] at HTH
      clear hf hp hr
      go_enter Try.func24, Try.ntmps24
      go_wp2_with fail
      refine HTH.out.mono ?_
      rintro e w1 ⟨rfl, rfl⟩
      go_wp2
      go_ret2
      rw [HY.out]
      exact ⟨none, 0, rfl, HNIL.out, Below.refl _ _⟩
    · have HX := Lib.hid (show thereE s nm = 0 by rw [HE.out, if_pos hr, HF.out, hf]; rfl)
      have HY := Lib.hid (show readR s nm = (fs[i].data, 0) by rw [HS.out, if_pos hr, HF.out, hf]; rfl)
      rw [HX.out] at HTH
      have HPL := Lib.hid hp
      obtain ⟨A, c, hv, hc, hcm⟩ := HR.out.form
      subst hv
      obtain ⟨g, hA, hg, _, _, q0, q1, q2⟩ := HR.out.at_ hi
      subst hA
      have c0 := HR.out.1.c0
      obtain ⟨nf, hnf⟩ : ∃ nf, fs.length = nf := ⟨_, rfl⟩
      have hin : (i : Int) < (nf : Int) := by omega
      have hi0 : (0 : Int) ≤ (i : Int) := by omega
      rw [hnf] at hc c0
      have HST := Lib.hid (HR.out.2.2.2.2.2.2.1 fs[i] (List.getElem_mem hi)).1
      have HAT := Lib.hid (fun k => ref_at_any X F _ fs s nm (w.drewN k) (HR.out.below ⟨rfl, rfl, rfl, Nat.le_refl _, fun _ _ => rfl⟩))
      simp only [HPL.out] at HAT
      clear hf hp hr hnm hnf
      go_enter Try.func24, Try.ntmps24
      go_wp2_with fail
      refine HTH.out.mono ?_
      rintro e w1 ⟨rfl, rfl⟩
      go_wp2_with fail
      go_quiet ((go_at_call 38; refine Calls.quiet_of_same (HAT.out _)))
      go_wp2
      go_ret2
      rw [HY.out]
      exact ⟨_, _, rfl, HST.out.step (Turned.of_below ⟨rfl, rfl, rfl, Nat.le_refl _, fun _ _ => rfl⟩) (Spread.refl _ _), ⟨rfl, rfl, rfl, Nat.le_refl _, fun _ _ => rfl⟩⟩
  · have HX := Lib.hid (show thereE s nm = ready1 nm s.off by rw [HE.out, if_neg hr])
    have HY := Lib.hid (show readR s nm = ([], ready1 nm s.off) by rw [HS.out, if_neg hr])
    rw [HX.out] at HTH
    have hq : (ready1 nm s.off != 0) = true := by simpa using hr
    generalize ready1 nm s.off = rr at *
    clear hr
    go_enter Try.func24, Try.ntmps24
    go_wp2_with fail
    refine HTH.out.mono ?_
    rintro e w1 ⟨rfl, rfl⟩
    go_wp2
    go_ret2
    rw [HY.out]
    exact ⟨none, 0, rfl, HNIL.out, Below.refl _ _⟩
end Go.Proofs.Ytglfbigklnaegaa
