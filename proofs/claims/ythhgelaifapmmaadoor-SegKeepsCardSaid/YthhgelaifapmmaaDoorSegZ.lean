/-
  Joined: SegA SegB SegC SegD SegE SegF SegG SegH SegI SegJ SegK SegL SegM SegN SegO.
-/
import Derived.Test.YthhgelaifapmmaaDoorMatchZ
import Derived.Test.YthhgelaifapmmaaDoorMatchArg
import Derived.Test.YthhgelaifapmmaaDoorWordsN
import Derived.Test.YthhgelaifapmmaaDoorPackZ
import Derived.Test.YthhgelaifapmmaaDoorPostZ
import Derived.Maps.GroupsBeside
import Derived.Carry
import Derived.Maps.Range
import Derived.Sort.KeysCollected
import Derived.Maps.RangeWalk
import Derived.Laws.MakeOwn
import Derived.ArgAppend
namespace Go.Proofs.YthhgelaifapmmaaDoor.M

/-- in which of the first i entries a term stands -/
def postsTo (ds : List D) (i : Nat) (t : T) : List Int := ((List.range i).filter fun j => decide (t ∈ terms (ds[j]?.getD ⟨[], 0, []⟩).text)).map Int.ofNat
def posts (ds : List D) (t : T) : List Int := postsTo ds ds.length t
/-- .. and of the next one's first k terms -/
def postsIn (ds : List D) (i k : Nat) (ts : List T) (t : T) : List Int := postsTo ds i t ++ if t ∈ ts.take k then [(i : Int)] else []
theorem postsTo_zero (ds : List D) (t : T) : postsTo ds 0 t = [] := rfl
theorem postsIn_zero (ds : List D) (i : Nat) (ts : List T) : postsIn ds i 0 ts = postsTo ds i := by
  funext t; simp [postsIn]
theorem postsIn_all {ds : List D} {i : Nat} (h : i < ds.length) (k : Nat) (hk : (terms ds[i].text).length ≤ k) : postsIn ds i k (terms ds[i].text) = postsTo ds (i + 1) := by
  funext t
  unfold postsIn postsTo
  rw [List.take_of_length_le hk, List.range_succ, List.filter_append, List.map_append]
  congr 1
  by_cases ht : t ∈ terms ds[i].text
  · rw [if_pos ht]; simp [h, ht]
  · rw [if_neg ht]; simp [h, ht]
theorem postsIn_next {ds : List D} {i k : Nat} {ts : List T} (hr : Rising ts) (hk : k < ts.length) (t : T) : postsIn ds i (k + 1) ts t = if t = ts[k] then postsIn ds i k ts t ++ [(i : Int)] else postsIn ds i k ts t := by
  unfold postsIn
  rw [List.take_succ_eq_append_getElem hk]
  by_cases ht : t = ts[k]
  · have hn : ¬ t ∈ ts.take k := by
      intro hm
      obtain ⟨j, hj, e⟩ := List.mem_iff_getElem.1 hm
      rw [List.getElem_take] at e
      have hjk : j < k := by rw [List.length_take] at hj; omega
      have := List.pairwise_iff_getElem.1 hr j k (by omega) hk hjk
      rw [e, ht] at this
      exact lt_irr _ this
    rw [if_pos ht, if_neg hn, if_pos (List.mem_append_right _ (by rw [ht]; exact List.mem_singleton.2 rfl)), List.append_nil]
  · rw [if_neg ht]
    have : (t ∈ ts.take k ++ [ts[k]]) ↔ t ∈ ts.take k := ⟨fun h => (List.mem_append.1 h).elim id (fun h => absurd (List.mem_singleton.1 h) ht), List.mem_append_left _⟩
    simp only [this]
theorem raw_short (s : List UInt8) : ∀ (ws : List W) (p : Option W), (∀ x ∈ ws, x.text.length ≤ 32) → (∀ q, p = some q → q.text.length ≤ 32) → ∀ t ∈ raw s p ws, t.length ≤ 65
  | [], p, _, _, t, ht => by cases p <;> simp [raw] at ht
  | w :: r, none, hw, _, t, ht => by
    have h1 := hw w (by simp)
    rw [raw] at ht
    rcases List.mem_cons.1 ht with rfl | ht
    · omega
    · exact raw_short s r (some w) (fun x hx => hw x (by simp [hx])) (fun q e => by injection e with e; subst e; exact h1) t ht
  | w :: r, some p, hw, hp, t, ht => by
    have h1 := hw w (by simp)
    have h2 := hp p rfl
    rw [raw] at ht
    rcases List.mem_cons.1 ht with rfl | ht
    · omega
    · rcases List.mem_append.1 ht with ht | ht
      · split at ht
        · rw [List.mem_singleton] at ht
          subst ht
          rw [List.length_append, List.length_cons]; omega
        · simp at ht
      · exact raw_short s r (some w) (fun x hx => hw x (by simp [hx])) (fun q e => by injection e with e; subst e; exact h1) t ht
theorem terms_short (s : List UInt8) : ∀ t ∈ terms s, t.length ≤ 65 := fun t ht => raw_short s (words s) none (fun x hx => (words_all s 0 x hx).1.le) (fun q e => by cases e) t ((mem_gather _ _).1 ht)
theorem terms_rising (s : List UInt8) : Rising (terms s) := gather_rising _
end Go.Proofs.YthhgelaifapmmaaDoor.M
namespace Go.Proofs.YthhgelaifapmmaaDoor
open Go.RowKit Mem Go.ChangeShapes
set_option linter.unusedVariables false
set_option maxRecDepth 100000

theorem Tryd.keyed : Maps.Keyed Tryd.prog 9 := Maps.string_keyed Tryd.underlying9
theorem Tryd.zeroInts (w : World) : (zeroValue 42).run Tryd.prog w = .ok (.slice none 0 0) w := by
  have h : (Tryd.prog.info? 42).map (fun i => i.zero) = some (some (.slice none 0 0)) := by kernel_rfl
  cases hi : Tryd.prog.info? 42 with
  | none => rw [hi] at h; cases h
  | some i =>
    rw [hi] at h
    simp only [Option.map_some, Option.some.injEq] at h
    simp [zeroValue, typeInfo, hi, h]
theorem keyOf_text (l : List UInt8) (hs : l.length ≤ 9223372036854775807) : keyOf Tryd.prog 9 (.string ⟨l.toArray⟩) = some (.string l) :=
  WideMaps.keyOf_string_mk (s := ⟨l.toArray⟩) Tryd.underlying9 (show l.length ≤ maxLen by simpa only [maxLen] using hs)

/-- the map's datum D holds the lists f, where they are not empty -/
def Grp (D : DataW Unit) (f : List UInt8 → List Int) : Prop := Maps.IsMap D ∧ ∀ t z, D.atKey (.string t) z = if f t = [] then z else .slice (lits .i64 (f t)) []
theorem Grp.empty : Grp (.map []) (fun _ => []) := ⟨Maps.isMap_empty, fun t z => by simp [DataW.atKey]⟩
theorem lits_inj {a b : List Int} (h : (lits .i64 a : List (DataW Unit)) = lits .i64 b) : a = b := by
  unfold lits at h
  exact (List.map_inj_right (fun x y e => by simpa using e)).1 h
theorem Grp.at_ {D : DataW Unit} {f : List UInt8 → List Int} (h : Grp D f) {w : World} {base : Nat} {t : List UInt8} {v : Value} {zs : List Int} (hat : D.atKey (.string t) .nil = rowDatum .i64 v zs) (ho : w.ownsInts base 3 .i64 v zs) : zs = f t := by
  rw [h.2] at hat
  rcases World.ownsInts.datum (H := Unit) ho with ⟨e1, e2⟩ | e1
  · rw [e1] at hat
    by_cases hf : f t = []
    · rw [hf, e2]
    · rw [if_neg hf] at hat; cases hat
  · rw [e1] at hat
    by_cases hf : f t = []
    · rw [if_pos hf] at hat; cases hat
    · rw [if_neg hf] at hat
      injection hat with hat
      exact (lits_inj hat).symm
theorem Grp.put {D : DataW Unit} {f g : List UInt8 → List Int} (h : Grp D f) {t : List UInt8} {zs : List Int} (hz : zs ≠ []) (hg : ∀ u, g u = if u = t then zs else f u) : Grp (D.put (.string t) (.slice (lits .i64 zs) [])) g := by
  refine ⟨h.1.put _ _, fun u z => ?_⟩
  rw [hg u]
  by_cases e : u = t
  · subst e
    rw [if_pos rfl, Maps.atKey_put_same h.1 (show WideAt.IsKeyLit (.string u) from trivial), if_neg hz]
  · rw [if_neg e, Maps.atKey_put_other (fun e2 => e (by injection e2)), h.2]
theorem below_grown {w w' : World} (hb : Below w.heap.size w w') : w.grownBy w' none := ⟨hb.os, hb.tape, hb.output, hb.size, fun k hk _ => hb.block k hk⟩
theorem groups_below {w w' : World} {base b n : Nat} {D : DataW Unit} (h : w.ownsGroups Tryd.prog 9 base 3 .i64 b n D) (hb : Below w.heap.size w w') : w'.ownsGroups Tryd.prog 9 base 3 .i64 b n D :=
  h.kept (below_grown hb) (by simp) (fun es clock _ x _ => by cases hx : x.val.ownBlock with | none => exact .inl rfl | some g => exact .inr (by simp))
theorem shuns_below {w w' : World} {b : Nat} {No : Nat → Prop} (h : w.Shuns b No) (hlt : b < w.heap.size) (hb : Below w.heap.size w w') : w'.Shuns b No := h.kept (below_grown hb) hlt (by simp)
theorem groups_lt {w : World} {base b n : Nat} {D : DataW Unit} (h : w.ownsGroups Tryd.prog 9 base 3 .i64 b n D) : b < w.heap.size := by
  obtain ⟨es, clock, hb, _⟩ := h
  exact heapLt hb

theorem wf_nat (i : Nat) (h : i ≤ 9223372036854775807) : (Lit.int .i64 (i : Int)).wf = true := by
  have h1 : IntKind.i64.min = -9223372036854775808 := by decide
  have h2 : IntKind.i64.max = 9223372036854775807 := by decide
  show (decide (IntKind.i64.min ≤ (i : Int)) && decide ((i : Int) ≤ IntKind.i64.max)) = true
  rw [h1, h2]
  simp
  omega
/-- the groups f lie in the map b; all is new since w -/
def Posted (w : World) (b n : Nat) (f : List UInt8 → List Int) (wr : World) : Prop :=
  ∃ D : DataW Unit, wr.ownsGroups Tryd.prog 9 (b + 1) 3 .i64 b n D ∧ Grp D f ∧ w.heap.size ≤ b ∧ Below w.heap.size w wr

set_option maxHeartbeats 4000000 in
theorem postsOf_any (A : Option Addr) (n c : Nat) (ds : List M.D) (w : World) (h : RdDocs w w.heap.size A n c ds) (hn : n ≤ 4096) (htx : ∀ d ∈ ds, d.text.length ≤ 512) (hT : Tabs w) :
    Calls Tryd.prog 30 #[.slice A n c] w (fun e w' => ∃ b N, e = .returned (.map (some b)) ∧ N ≤ 8388608 ∧ Posted w b N (M.posts ds) w') := by
  obtain ⟨i0, hi0, hz0, hz1, hz2⟩ := Tryd.info_int
  have HI := Lib.hid hi0; have HZ0 := Lib.hid hz0; have HZ1 := Lib.hid hz1; have HZ2 := Lib.hid hz2
  clear hi0 hz0 hz1 hz2
  have H := Lib.hid h; have HN := Lib.hid h.1; have HTX := Lib.hid htx; have HT := Lib.hid hT
  have hc := h.2.1; have hcm := h.2.2.1
  have HP0 := Lib.hid (show Posted w w.heap.size 0 (M.postsTo ds 0) (w.alloc (.map #[] 0)) from ⟨.map [], World.ownsGroups_made w _ _ _ _, Grp.empty, Nat.le_refl _, (Below.refl _ w).alloc (Nat.le_refl _) _⟩)
  clear h htx hT
  go_enter Tryd.func30, Tryd.ntmps30
  go_wp2_with fail
  rw [run_makeMap]
  generalize w.alloc (.map #[] 0) = w0 at *
  obtain ⟨b, hb⟩ : ∃ b, w.heap.size = b := ⟨_, rfl⟩
  have HBB := Lib.hid hb
  rw [hb] at HP0 ⊢
  clear hb
  go_wp2
  go_loopw [11] (fun p wr => ∃ i N : Nat, p = .int .i64 i ∧ i ≤ n ∧ N ≤ 4194304 ∧ Hid (N ≤ i * 1024) ∧ Hid (Posted w b N (M.postsTo ds i) wr)) (fun p _ => n - (intOf p).toNat)
  case atStart => exact ⟨0, 0, rfl, Nat.zero_le _, by omega, Lib.hid (by omega), HP0⟩
  case round =>
    obtain ⟨i, N, rfl, hi, hNb, HNB, HV⟩ := hrel
    rename World => wr
    obtain ⟨D, hgr, hgp, hbb, hbw⟩ := HV.out
    have HGR := Lib.hid hgr; have HGP := Lib.hid hgp; have HBW := Lib.hid hbw
    clear hgr hgp hbb hbw HV
    by_cases hlt : i < n
    · have hix : i < ds.length := by have := HN.out; omega
      obtain ⟨db, off, rfl, hdb, hcell⟩ := H.out.2.2.2 (by omega)
      obtain ⟨q0, q1, q2⟩ := hcell i hix
      have q0' := (HBW.out.cell (p := ⟨db, off + i * 3, none⟩) hdb).trans q0
      have q1' := (HBW.out.cell (p := ⟨db, off + i * 3 + 1, none⟩) hdb).trans q1
      have q2' := (HBW.out.cell (p := ⟨db, off + i * 3 + 2, none⟩) hdb).trans q2
      have hil : (i : Int) < (n : Int) := by omega
      have htl := HTX.out _ (List.getElem_mem hix)
      have HTL := Lib.hid (show (M.terms ds[i].text).length ≤ 1024 by have := terms_len ds[i].text; omega)
      have HALL := Lib.hid (fun k hk => M.postsIn_all hix k hk)
      have HC := Lib.hid (fun (W : World) (hW : Below w.heap.size w W) => terms_new ⟨ds[i].text.toArray⟩ W (by show ds[i].text.length ≤ _; omega) (HT.out.below hW))
      have hbl2 : ∀ x : List UInt8, bl ⟨x.toArray⟩ = x := fun x => rfl
      simp only [hbl2] at HC
      have HRISE := Lib.hid (M.terms_rising ds[i].text)
      have HLT := Lib.hid (show ∀ t ∈ M.terms ds[i].text, t.length ≤ 9223372036854775807 from fun t ht => by have := M.terms_short _ t ht; omega)
      clear hcell q0 q1 q2 hbl2 htl
      obtain ⟨did, hdid⟩ : ∃ x, ds[i].id = x := ⟨_, rfl⟩
      obtain ⟨dtm, hdtm⟩ : ∃ x, ds[i].time = x := ⟨_, rfl⟩
      obtain ⟨dtx, hdtx⟩ : ∃ x, ds[i].text = x := ⟨_, rfl⟩
      rw [hdid] at q0'
      rw [hdtm] at q1'
      rw [hdtx] at q2'
      simp only [hdtx] at HTL HALL HC HRISE HLT
      obtain ⟨ts, hts⟩ : ∃ ts, M.terms dtx = ts := ⟨_, rfl⟩
      simp only [hts] at HTL HALL HC HRISE HLT
      clear hdid hdtm hdtx hts
      have hb5 := (Below.refl wr.heap.size wr).alloc (Nat.le_refl _) (.cells #[.string ⟨did.toArray⟩, .int .i64 dtm, .string ⟨dtx.toArray⟩] 52)
      have HB5 := Lib.hid hb5
      have HBW5 := Lib.hid (HBW.out.trans (hb5.mono HBW.out.size))
      clear hb5
      go_wp2_with fail
      refine (HC.out _ HBW5.out).mono ?_
      rintro e w2 ⟨A2, c2, rfl, hrd2, hb2, hnew⟩
      have hgr2 := groups_below (groups_below HGR.out HB5.out) hb2
      have hbb2 := HBW5.out.trans (hb2.mono HBW5.out.size)
      have hlt2 := groups_lt HGR.out
      have hsh0 : wr.Shuns b (fun _ => False) := fun es clock _ x _ g _ h => h
      have hA2 : ∃ tb : Nat, wr.heap.size < tb + 1 ∧ ∀ a, A2 = some a → 0 < ts.length → a.block = tb := by
        rcases Nat.eq_zero_or_pos ts.length with h0 | h0
        · exact ⟨wr.heap.size, by omega, fun a _ h => by omega⟩
        · obtain ⟨tb, off2, e, hle⟩ := hnew h0
          refine ⟨tb, by simp at hle; omega, fun a ha _ => ?_⟩
          rw [e] at ha; injection ha with ha; rw [← ha]
      obtain ⟨tb, htb, hAt⟩ := hA2
      have hsh1 : wr.Shuns b (fun g => g = tb) := hsh0.reno HGR.out (fun g hg => .inr (by have : g = tb := hg; omega))
      have hsh2 := shuns_below (shuns_below hsh1 hlt2 HB5.out) (by have := HB5.out.size; omega) hb2
      have HTB := Lib.hid (show ¬ tb = b by have := hlt2; omega)
      obtain ⟨m, hm⟩ : ∃ m, ts.length = m := ⟨_, rfl⟩
      rw [hm] at hrd2 hAt ⊢
      have HAT := Lib.hid hAt; have HSH2 := Lib.hid hsh2; have HRD2 := Lib.hid hrd2; have HM := Lib.hid hm
      have HP2 := Lib.hid (show Posted w b N (M.postsIn ds i 0 ts) w2 from ⟨D, hgr2, by rw [M.postsIn_zero]; exact HGP.out, by rw [HBB.out]; exact Nat.le_refl _, hbb2⟩)
      have hmb : m ≤ 1024 := by have := HTL.out; omega
      have hcc := hrd2.2.1; have hccm := hrd2.max
      clear hgr2 hbb2 hlt2 hsh0 hsh1 hsh2 hAt htb hnew hb2 hrd2 hm HC HGR HGP HBW HBW5 HB5 q0' q1' q2'
      go_wp2
      go_loopw [20] (fun p wi => ∃ k N2 : Nat, p = .int .i64 k ∧ k ≤ m ∧ N2 ≤ 4195328 ∧ Hid (N2 ≤ N + k) ∧ Hid (Posted w b N2 (M.postsIn ds i k ts) wi) ∧ Hid (wi.Shuns b (fun g => g = tb)) ∧ Hid (RdV wi wi.heap.size A2 m c2 (Mem.strs ts))) (fun p _ => m - (intOf p).toNat)
      case atStart => exact ⟨0, N, rfl, Nat.zero_le _, by omega, Lib.hid (by omega), HP2, HSH2, HRD2⟩
      case round =>
        obtain ⟨k, N2, rfl, hk, hN2, HNK, HV2, HSH, HRD⟩ := hrel
        rename World => wi
        obtain ⟨D2, hgr2, hgp2, hbb2, hbw2⟩ := HV2.out
        have HGR2 := Lib.hid hgr2; have HGP2 := Lib.hid hgp2; have HBW2 := Lib.hid hbw2
        have hblt := groups_lt hgr2
        clear hgr2 hgp2 hbb2 hbw2 HV2
        by_cases hlt3 : k < m
        · have hkx : k < ts.length := by rw [HM.out]; exact hlt3
          obtain ⟨tb', off2, rfl, htb', q⟩ := HRD.out.at_ hlt3
          have htbe : tb' = tb := HAT.out _ rfl (by omega)
          subst htbe
          rw [Mem.strs_at hkx] at q
          have hkl : (k : Int) < (m : Int) := by omega
          have hkey := keyOf_text ts[k] (HLT.out _ (List.getElem_mem hkx))
          have HKEY := Lib.hid hkey
          have HNX := Lib.hid (fun t => M.postsIn_next (ds := ds) (i := i) HRISE.out hkx t)
          generalize ts[k] = t at *
          clear hkey
          go_wp2_with (at_lookup; go_must (refine wpList_lookup_groups_shuns _ rfl (.tmp 26) (.tmp 27) _ rfl 9 42 3 .i64 Tryd.keyed Tryd.underlying62 (Tryd.zeroInts _) (b + 1) b N2 D2 rfl HGR2.out (by simp only [maxLen]; omega) _ _ rfl HKEY.out ?_))
          intro v zs hat hoi hzl hback hsh
          have hzf := HGP2.out.at_ hat hoi
          have HOI := Lib.hid hoi; have HBACK := Lib.hid hback; have HSHV := Lib.hid hsh; have HZF := Lib.hid hzf; have HZL := Lib.hid hzl
          have hvl : ∀ g, v.ownBlock = some g → b + 1 ≤ g ∧ g < wi.heap.size := fun g hg => hoi.1.lt g hg
          have HVL := Lib.hid hvl
          clear hat hoi hzl hback hsh hzf hvl
          go_wp2_with (at_builtin; go_must (refine wpList_append_own_at _ rfl (.tmp 28) (.tmp 30) _ rfl (b + 1) 3 i0 _ 1 8 Tryd.underlying42 HI.out HZ0.out HZ1.out HZ2.out rfl (by omega) v zs.length (zs.map (Value.int .i64)) rfl (HOI.out.1.alloc _) ⟨wi.heap.size, 0, none⟩ 1 1 [.int .i64 (i : Int)] rfl rfl (World.news_of_block (cs := #[.int .i64 (i : Int)]) (t := 3) (fr := (0, 0)) (heap_alloc_new wi _)) (by simp [Value.oneCell']) (by have := HZL.out; simp only [maxLen]; omega) (by have := HZL.out; omega) (by simp; omega) ?_))
          intro v9 w9 hO9 hg9 hiff9 hat9
          have hgw : wi.grownBy w9 v.ownBlock := by
            have ho : ∀ kk, kk < wi.heap.size → (wi.alloc (.cells #[.int .i64 (i : Int)] 3)).heap[kk]? = wi.heap[kk]? := fun kk hkk => Below.heap_alloc _ _ kk hkk
            exact ⟨hg9.os, hg9.tape, hg9.output, Nat.le_trans (by simp) hg9.size, fun kk hkk hne => (hg9.block kk (by simp; omega) hne).trans (ho kk hkk)⟩
          have hown9 : w9.ownsInts (b + 1) 3 .i64 v9 (zs ++ [(i : Int)]) := HOI.out.appended hO9 (wf_nat i (by omega))
          have hloc9 : v9.ownBlock = v.ownBlock ∨ ∃ g, v9.ownBlock = some g ∧ wi.heap.size ≤ g := hat9.imp id (fun h => ⟨_, h, by simp⟩)
          have hno9 : ∀ g, v9.ownBlock = some g → ¬ g = tb' := fun g hg => by
            rcases hloc9 with h | ⟨g', h, hle⟩
            · rw [h] at hg
              exact HSHV.out (fun g => g = tb') HSH.out g hg
            · rw [h] at hg; injection hg with hg; omega
          have HGW := Lib.hid hgw; have HOWN9 := Lib.hid hown9; have HLOC9 := Lib.hid hloc9; have HNO9 := Lib.hid hno9
          clear hO9 hg9 hiff9 hat9 hgw hown9 hloc9 hno9
          go_wp2_with (at_mapUpdate; go_must (refine wpList_mapUpdate_back_shuns _ rfl (.tmp 24) (.tmp 25) (.tmp 31) _ rfl Tryd.keyed Tryd.underlying62 HKEY.out HGR2.out (by simp only [maxLen]; omega) HOI.out HSH.out HNO9.out HBACK.out rfl rfl rfl HGW.out HOWN9.out (by have := HZL.out; simp; omega) HLOC9.out ?_))
          intro w10 hgr10 hg10 hsh10
          have hT : Turned (fun g => v.ownBlock = some g ∨ g = b) wi w10 := by
            refine ⟨hg10.os.trans HGW.out.os, hg10.tape.trans HGW.out.tape, hg10.output.trans HGW.out.output, Nat.le_trans HGW.out.size hg10.size, fun kk hkk hne => ?_⟩
            exact (hg10.block kk (Nat.lt_of_lt_of_le hkk HGW.out.size) (fun e => hne (.inr (by injection e)))).trans (HGW.out.block kk hkk (fun e => hne (.inl e.symm)))
          have hbel : Below w.heap.size wi w10 := hT.below HBW2.out.size (fun g hg => by
            have := HBB.out
            rcases hg with hg | hg
            · have := (HVL.out g hg).1; omega
            · omega)
          have hrd10 : RdV w10 w10.heap.size (some ⟨tb', off2, none⟩) m c2 (Mem.strs ts) := by
            obtain ⟨r1, r2, r3, r4⟩ := HRD.out
            refine ⟨r1, r2, r3, fun h0 => ?_⟩
            obtain ⟨b', o', e, hb', hc'⟩ := r4 h0
            injection e with e
            injection e with e1 e2 _
            subst e1 e2
            refine ⟨tb', off2, rfl, Nat.lt_of_lt_of_le hb' hT.size, fun j hj => (hT.cell (p := ⟨tb', off2 + j, none⟩) hb' (fun h => ?_)).trans (hc' j hj)⟩
            rcases h with h | h
            · exact HSHV.out (fun g => g = tb') HSH.out tb' h rfl
            · exact HTB.out h
          have HP10 := Lib.hid (show Posted w b (N2 + 1) (M.postsIn ds i (k + 1) ts) w10 from ⟨_, hgr10, by
            have hne : zs ++ [(i : Int)] ≠ [] := by simp
            rw [HOWN9.out.datum_pos hne]
            refine HGP2.out.put hne (fun u => ?_)
            rw [HNX.out u]
            by_cases e : u = t
            · subst e; rw [if_pos rfl, if_pos rfl, ← HZF.out]
            · rw [if_neg e, if_neg e], by have := HBB.out; omega, HBW2.out.trans hbel⟩)
          have HSH10 := Lib.hid hsh10; have HRD10 := Lib.hid hrd10
          clear hgr10 hg10 hsh10 hT hbel hrd10
          go_wp2
          go_roundw
          case rel => exact ⟨k + 1, N2 + 1, by go_num, by omega, by have := HNK.out; omega, Lib.hid (by have := HNK.out; omega), HP10, HSH10, HRD10⟩
          case measure => simp [intOf]; omega
        · have HPE := Lib.hid (show Posted w b N2 (M.postsTo ds (i + 1)) wi from ⟨D2, HGR2.out, by
            have := HGP2.out
            rwa [HALL.out k (by rw [HM.out]; omega)] at this, by have := HBB.out; omega, HBW2.out⟩)
          go_wp2
          go_roundw
          case rel => exact ⟨i + 1, N2, by go_num, by omega, by have := HNK.out; have := HNB.out; omega, Lib.hid (by have := HNK.out; have := HNB.out; omega), HPE⟩
          case measure => simp [intOf]; omega
    · have HE := Lib.hid (show M.postsTo ds i = M.posts ds by have e : i = ds.length := by have := HN.out; omega
                                                              rw [e]; rfl)
      go_wp2
      go_ret
      exact ⟨b, N, rfl, by omega, D, HGR.out, by rw [← HE.out]; exact HGP.out, by have := HBB.out; omega, HBW.out⟩
end Go.Proofs.YthhgelaifapmmaaDoor

namespace Go.Proofs.YthhgelaifapmmaaDoor
open Go.RowKit Mem Go.ChangeShapes Go.Sort
set_option linter.unusedVariables false
set_option maxRecDepth 100000

theorem groups_map {w : World} {base b n : Nat} {D : DataW Unit} (h : w.ownsGroups Tryd.prog 9 base 3 .i64 b n D) : w.ownsMap Tryd.prog 9 (rowElem w base 3 .i64) b n D := by
  obtain ⟨es, clock, hb, F, hs, hD, _⟩ := h
  exact ⟨es, clock, hb, F, hs, hD⟩
/-- the keys of a map of lists, rising -/
def keysOf (D : DataW Unit) : List (List UInt8) := (strKeys D).mergeSort fun x y => decide (x ≤ y)

theorem map_size {w : World} {R : Value → Option (DataW Unit × List MemPlace)} {b n : Nat} {D : DataW Unit} (h : w.ownsMap Tryd.prog 9 R b n D) : Maps.size D ≤ n := by
  obtain ⟨es, clock, hb, F, hs, rfl⟩ := h
  rw [Maps.size_eq, length_sorted]
  simpa using hs
theorem map_kept {w w' : World} {R : Value → Option (DataW Unit × List MemPlace)} {b n : Nat} {D : DataW Unit} {row : Option Nat} (h : w.ownsMap Tryd.prog 9 R b n D) (hg : w.grownBy w' row) (hne : some b ≠ row) : w'.ownsMap Tryd.prog 9 R b n D := by
  have hlt := h.lt
  obtain ⟨es, clock, hb, r⟩ := h
  exact ⟨es, clock, (hg.block b hlt hne).trans hb, r⟩

set_option maxHeartbeats 4000000 in
theorem keysInOrder_any (base b N : Nat) (D : DataW Unit) (w : World) (h : w.ownsGroups Tryd.prog 9 base 3 .i64 b N D) (hN : N ≤ 8388608) :
    Calls Tryd.prog 48 #[.map (some b)] w (SaysN (keysOf D) w) := by
  obtain ⟨i0, hi0, hz0, hz1, hz2⟩ := info_of Tryd.infoS
  have HI := Lib.hid hi0; have HZ0 := Lib.hid hz0; have HZ1 := Lib.hid hz1; have HZ2 := Lib.hid hz2
  clear hi0 hz0 hz1 hz2
  have HM := Lib.hid (groups_map h)
  clear h
  go_enter Tryd.func48, Tryd.ntmps48
  go_wp2_with fail
  rw [World.ownsMap.len HM.out Tryd.underlying62 _]
  obtain ⟨sz, hsz⟩ : ∃ sz, Maps.size D = sz := ⟨_, rfl⟩
  have HSZ := Lib.hid hsz
  have hszN : sz ≤ N := by rw [← hsz]; exact map_size HM.out
  rw [hsz]
  clear hsz
  obtain ⟨w1, hmk, ho1, hg1⟩ := run_make_own (P := Tryd.prog) w w.heap.size 48 9 i0 _ 1 Tryd.underlying48 HI.out HZ0.out HZ1.out .i64 .i64 sz (by rw [HZ2.out]; omega) (by simp only [maxLen]; omega) (Nat.le_refl _)
  have hb1 : Below w.heap.size w w1 := ⟨hg1.os, hg1.tape, hg1.output, hg1.size, fun k hk => hg1.block k hk (by simp)⟩
  have HB1 := Lib.hid hb1
  have HM1 := Lib.hid (map_kept HM.out hg1 (by simp))
  have HO1 := Lib.hid (show OwnV w1 w.heap.size 9 (.slice (some ⟨w.heap.size, 0, none⟩) 0 sz) (strs []) from ho1)
  clear ho1 hg1 hb1
  go_wp2_with (first | (at_range; go_must (refine wpList_range_own _ rfl (.tmp 8) _ rfl 9 42 Tryd.keyed Tryd.underlying62 _ b N D rfl HM1.out ?_)) | fail)
  intro w2 hrg2 hg2 hs2
  clear hmk
  have HRG2 := Lib.hid hrg2
  have HB2 := Lib.hid (show Below w.heap.size w w2 from HB1.out.trans ⟨hg2.os, hg2.tape, hg2.output, hg2.size, fun k hk => hg2.block k (Nat.lt_of_lt_of_le hk HB1.out.size) (by simp)⟩)
  have HO2 := Lib.hid (show OwnV w2 w.heap.size 9 (.slice (some ⟨w.heap.size, 0, none⟩) 0 sz) (strs []) from World.ownsRow.kept HO1.out hg2 (.inr (by simp [Value.ownBlock])))
  obtain ⟨r, hr⟩ : ∃ r, w1.heap.size = r := ⟨_, rfl⟩
  have HRW := Lib.hid (show w.heap.size < r by
    have := (OwnV.lt HO1.out w.heap.size rfl).2
    omega)
  have HBL := Lib.hid (show b < w.heap.size from HM.out.lt)
  rw [hr] at HRG2 ⊢
  rw [HSZ.out] at HRG2
  have HV0 := Lib.hid (show ∀ g, (Value.slice (some ⟨w.heap.size, 0, none⟩) 0 sz).ownBlock = some g → g ≠ r from fun g hg => by injection hg with hg; have : w.heap.size = g := hg; have := HRW.out; omega)
  have HC0 := Lib.hid (Collected.start D)
  clear hrg2 hg2 hs2 hr HM1 HO1 HB1
  generalize (rowElem w base 3 .i64 : Value → Option (DataW Unit × List MemPlace)) = R at *
  go_wp2_with fail
  go_loopw [3] (fun o wr => ∃ (m c9 cnt : Nat) (A9 : Option Addr) (ss : List (List UInt8)) (left : Lit → Bool), o = .slice A9 m c9 ∧ m ≤ N ∧ Hid (ss.length = m) ∧ Hid (m + cnt ≤ sz) ∧ Hid (wr.ranges Tryd.prog 9 R b r N D left cnt) ∧ Hid (Collected D left ss) ∧ Hid (OwnV wr w.heap.size 9 (.slice A9 m c9) (strs ss)) ∧ Hid (∀ g, (Value.slice A9 m c9).ownBlock = some g → g ≠ r) ∧ Hid (Below w.heap.size w wr)) (fun _ wr => wr.rangeLeft b r)
  case atStart => exact ⟨0, sz, sz, _, [], _, rfl, Nat.zero_le _, Lib.hid rfl, Lib.hid (by omega), HRG2, HC0, HO2, HV0, HB2⟩
  case round =>
    obtain ⟨m, c9, cnt, A9, ss, left, rfl, hm, HSS, HMC, HRG, HC, HO, HVR, HB⟩ := hrel
    rename World => wr
    go_wp2_with (first | (at_next; refine wpList_next_ranges _ rfl (.tmp 9) rfl 9 Tryd.keyed R encStr id (fun key kl h => by obtain ⟨x, hx, _⟩ := Maps.keyOf_str Tryd.underlying9 h; exact ⟨x, hx⟩) (fun v y _ => ⟨v, rfl⟩) b r N D left cnt rfl HRG.out ?_ ?_) | fail)
    · intro hc0 hl0
      have HP := Lib.hid (HC.out.perm HRG.out.owns Tryd.keyed Tryd.underlying9 hl0)
      have HKO := Lib.hid (show ss.mergeSort (fun x y => decide (x ≤ y)) = keysOf D from mergeSort_of_perm HP.out)
      have HKL := Lib.hid (show (keysOf D).length = m by rw [← HKO.out, List.length_mergeSort, HSS.out])
      have HCM := Lib.hid (show m ≤ c9 ∧ c9 ≤ 9223372036854775807 by
        obtain ⟨A', c', e1, h1, h2⟩ := HO.out.form
        injection e1 with _ e2 e3
        have := HSS.out
        simp at h1 e2
        omega)
      clear hc0 hl0
      by_cases hm0 : m = 0
      · subst hm0
        have HK0 := Lib.hid (show keysOf D = [] from List.eq_nil_of_length_eq_zero HKL.out)
        go_wp2_with fail
        refine (Tryd.slices_Sort_string_none A9 c9 wr).mono ?_
        rintro e w4 ⟨rfl, rfl⟩
        go_wp2
        go_ret
        refine ⟨A9, c9, by rw [HK0.out]; rfl, by rw [HK0.out]; exact ⟨rfl, by simp, by have := HCM.out; simp only [maxLen]; omega, fun h => absurd h (by simp)⟩, HB.out, fun h => absurd h (by rw [HK0.out]; simp)⟩
      · obtain ⟨g, hA9, hgw⟩ : ∃ g, A9 = some ⟨g, 0, none⟩ ∧ g < wr.heap.size ∧ w.heap.size ≤ g := by
          rcases HO.out.2 with ⟨h1, h2⟩ | ⟨g, cap, cur, h1, hg1, hh, _⟩
          · have := HSS.out; rw [List.length_map] at h2; omega
          · injection h1 with e1 e2 e3
            exact ⟨g, e1, (Array.getElem?_eq_some_iff.1 hh).1, hg1⟩
        subst hA9
        have HS := Lib.hid (sort_row g c9 ss wr (OwnV.holds HO.out) hgw.1 (by rw [HSS.out]; omega))
        rw [HSS.out] at HS
        go_wp2_with fail
        refine HS.out.mono ?_
        rintro e w4 ⟨rfl, hh4, ht4⟩
        rw [HKO.out] at hh4
        have HRD := Lib.hid (show RdV w4 w4.heap.size (some ⟨g, 0, none⟩) (keysOf D).length c9 (strs (keysOf D)) by
          refine ⟨by simp, by rw [HKL.out]; exact HCM.out.1, by have := HCM.out; simp only [maxLen]; omega, fun _ => ⟨g, 0, rfl, Nat.lt_of_lt_of_le hgw.1 ht4.size, fun j hj => ?_⟩⟩
          have := (hh4 j (by simpa using hj)).1
          rw [this, Mem.strs_at hj]
          simp [encStr, hj])
        have HB4 := Lib.hid (HB.out.trans (ht4.below HB.out.size (fun k hk => by have : k = g := hk; omega)))
        clear hh4 ht4
        go_wp2
        go_ret
        refine ⟨some ⟨g, 0, none⟩, c9, by rw [HKL.out]; rfl, HRD.out, HB4.out, fun _ => ⟨g, 0, rfl, hgw.2⟩⟩
    · intro x c kl y yp w3 cnt3 hkey hlk hv hat hrg3 hlt3 hg3 hs3 hen
      obtain ⟨x', ex, rfl, hxl⟩ := Maps.keyOf_str Tryd.underlying9 hkey
      have ex := encStr_inj ex
      subst ex
      have HC3 := Lib.hid (HC.out.step hlk hat)
      have HRG3 := Lib.hid hrg3
      have HB3 := Lib.hid (show Below w.heap.size w w3 from HB.out.trans ⟨hg3.os, hg3.tape, hg3.output, hg3.size, fun k hk => hg3.block k (Nat.lt_of_lt_of_le hk HB.out.size) (fun e => by injection e with e; have := HRW.out; omega)⟩)
      have HO3 := Lib.hid (show OwnV w3 w.heap.size 9 (.slice A9 m c9) (strs ss) from World.ownsRow.kept HO.out hg3 (by
        cases hv9 : (Value.slice A9 m c9).ownBlock with
        | none => exact .inl rfl
        | some g => exact .inr (fun e => HVR.out g hv9 (by injection e))))
      have HL := Lib.hid (show wr.rangeLeft b r = cnt from HRG.out.left_eq)
      have HMC3 := Lib.hid (show m + 1 + cnt3 ≤ sz ∧ cnt3 < cnt by have := HMC.out; omega)
      have hs3' := HB3.out.size
      have hmN : m + 1 ≤ N := by have := HMC.out; omega
      unfold encStr at hen
      clear hkey hlk hv hat hrg3 hlt3 hg3 hs3
      go_wp2_with (at_builtin; go_must (refine wpList_appV (w3.alloc _) rfl (.tmp 14) (.tmp 16) _ rfl w.heap.size (w3.heap.size + 1) _ i0 _ 16 Tryd.underlying48 HI.out HZ0.out HZ1.out HZ2.out rfl (.slice A9 m c9) (strs ss) (HO3.out.alloc _) rfl (some ⟨w3.heap.size, 0, none⟩) 1 1 [.string ⟨x.toArray⟩] (RdV.fresh w3 _ _) rfl (by simp [Value.oneCell']) (by have := HSS.out; simp; omega) (by have := HSS.out; simp; omega) (by simp; omega) ?_))
      intro v9 w9 hO9 hg9 hat9
      have hl9 : (strs ss ++ [Value.string ⟨x.toArray⟩]).length = m + 1 := by have := HSS.out; simp; omega
      obtain ⟨A10, c10, hv9, -⟩ := hO9.form
      rw [hl9] at hv9
      subst hv9
      have hgw : w3.grownBy w9 (Value.slice A9 m c9).ownBlock := by
        have ho : ∀ kk, kk < w3.heap.size → (w3.alloc (.cells #[.string ⟨x.toArray⟩] 9)).heap[kk]? = w3.heap[kk]? := fun kk hkk => Below.heap_alloc _ _ kk hkk
        exact ⟨hg9.os, hg9.tape, hg9.output, Nat.le_trans (by simp) hg9.size, fun kk hkk hne => (hg9.block kk (by simp; omega) hne).trans (ho kk hkk)⟩
      have HRG9 := Lib.hid (HRG3.out.kept hgw (fun e => by have := (HO3.out.lt b e.symm).1; have := HBL.out; omega) (fun e => HVR.out r e.symm rfl))
      have HO9 := Lib.hid (show OwnV w9 w.heap.size 9 (.slice A10 (m + 1) c10) (strs (ss ++ [x])) by rw [Mem.strs_app]; exact hO9)
      have HB9 := Lib.hid (HB3.out.trans ((Below.refl _ w3).grown hgw hs3' (fun k hk => (HO3.out.lt k hk).1)))
      have HVR9 := Lib.hid (show ∀ g, (Value.slice A10 (m + 1) c10).ownBlock = some g → g ≠ r from fun g hg => by
        rcases hat9 with h | h
        · rw [h] at hg; exact HVR.out g hg
        · rw [h] at hg; injection hg with hg; have := HRG3.out.lt; omega)
      have HSS9 := Lib.hid (show (ss ++ [x]).length = m + 1 by rw [List.length_append, HSS.out]; rfl)
      clear hO9 hg9 hat9 hl9 hgw hen
      go_wp2
      go_roundw
      case rel => exact ⟨m + 1, c10, cnt3, A10, _, _, rfl, hmN, HSS9, Lib.hid HMC3.out.1, HRG9, HC3, HO9, HVR9, HB9⟩
      case measure => rw [HRG9.out.left_eq, HL.out]; exact HMC3.out.2
end Go.Proofs.YthhgelaifapmmaaDoor

namespace Go.Proofs.YthhgelaifapmmaaDoor.M
def docBytes (d : D) : List UInt8 := text d.id ++ uv (zig d.time).toNat ++ text d.text
def termBytes (f : T → List Int) (t : T) : List UInt8 := text t ++ enc (f t)
def segHead (ds : List D) : List UInt8 := [83, 69, 71, 49] ++ uv ds.length
def segBody (ds : List D) (ks : List T) (f : T → List Int) : List UInt8 := segHead ds ++ (ds.map docBytes).flatten ++ uv ks.length ++ (ks.map (termBytes f)).flatten
theorem flat_take {α : Type} (g : α → List UInt8) {l : List α} {i : Nat} (h : i < l.length) : ((l.take (i + 1)).map g).flatten = ((l.take i).map g).flatten ++ g l[i] := by
  rw [List.take_succ_eq_append_getElem h, List.map_append, List.flatten_append]
  congr 1
  simp
end Go.Proofs.YthhgelaifapmmaaDoor.M
namespace Go.Proofs.YthhgelaifapmmaaDoor
open Go.RowKit Mem Go.ChangeShapes Go.Sort
set_option linter.unusedVariables false
set_option maxRecDepth 100000

theorem keysOf_len {D : DataW Unit} (h : Maps.IsMap D) : (keysOf D).length = Maps.size D := by
  obtain ⟨es, rfl⟩ := h
  unfold keysOf
  rw [List.length_mergeSort, Maps.size_eq]
  simp [strKeys]
theorem DocIn.grown {W W' : World} {g base : Nat} {d : M.D} {v : Value} {l : List UInt8} (h : DocIn W g d) (ho : Own W base 5 v l) (hg : W.grownBy W' v.ownBlock) : DocIn W' g d := by
  refine (hg.block g (heapLt h) (fun e => ?_)).trans h
  rcases ho.2 with ⟨rfl, _⟩ | ⟨g', cap, cur, rfl, _, hh, _⟩
  · cases e
  · injection e with e
    have e : g = g' := e
    subst e
    have := h.symm.trans hh
    simp at this
theorem rdv_grown {W W' : World} {A : Option Addr} {n c : Nat} {xs : List Value} {row : Option Nat} (h : RdV W W.heap.size A n c xs) (hg : W.grownBy W' row) (hne : ∀ a, A = some a → 0 < n → row ≠ some a.block) : RdV W' W'.heap.size A n c xs := by
  obtain ⟨h1, h2, h3, h4⟩ := h
  refine ⟨h1, h2, h3, fun h0 => ?_⟩
  obtain ⟨b, off, e, hb, hc⟩ := h4 h0
  exact ⟨b, off, e, Nat.lt_of_lt_of_le hb hg.size, fun j hj => (World.cell?_of_block (hg.block b hb (fun e2 => hne _ e h0 e2.symm))).trans (hc j hj)⟩
theorem rdv_below {W W' : World} {A : Option Addr} {n c : Nat} {xs : List Value} (h : RdV W W.heap.size A n c xs) (hb : Below W.heap.size W W') : RdV W' W'.heap.size A n c xs := (h.below hb).more hb.size
theorem segEncs_len : ∀ (l : List Int) (last : Int), (M.encs last l).length ≤ 10 * l.length
  | [], _ => by simp [M.encs]
  | x :: l, last => by
    have := segEncs_len l x
    have := (M.uv_len (x - last - 1).toNat).2
    rw [M.encs, List.length_append, List.length_cons]; omega
theorem segEnc_len (l : List Int) : (M.enc l).length ≤ 10 + 10 * l.length := by
  have := segEncs_len l (-1)
  have := (M.uv_len l.length).2
  rw [M.enc, List.length_append]; omega
/-- an entry whose parts have their lengths -/
def Fits (d : M.D) : Prop := d.id.length ≤ 32 ∧ d.text.length ≤ 512 ∧ -9223372036854775808 ≤ d.time ∧ d.time ≤ 9223372036854775807

set_option maxHeartbeats 8000000 in
theorem body_any (A : Option Addr) (n c b N : Nat) (ds : List M.D) (D : DataW Unit) (f : List UInt8 → List Int) (w : World) (h : RdDocs w w.heap.size A n c ds) (hn : n ≤ 4096) (hd : ∀ d ∈ ds, Fits d) (hg : w.ownsGroups Tryd.prog 9 (b + 1) 3 .i64 b N D) (hN : N ≤ 8388608) (hgp : Grp D f)
    (hf : ∀ t, M.rise (-1) (f t) = true ∧ (f t).length ≤ 4096 ∧ Known (f t)) (hkl : ∀ t ∈ keysOf D, t.length ≤ 65) :
    Calls Tryd.prog 29 #[.slice A n c, .map (some b)] w (Gives w (M.segBody ds (keysOf D) f)) := by
  obtain ⟨i0, hi0, hz0, hz1, hz2⟩ := info_parts Tryd.info_byte
  have HI := Lib.hid hi0; have HZ0 := Lib.hid hz0; have HZ1 := Lib.hid hz1; have HZ2 := Lib.hid hz2
  clear hi0 hz0 hz1 hz2
  have H := Lib.hid h; have HN := Lib.hid h.1; have HD := Lib.hid hd; have HG := Lib.hid hg; have HGP := Lib.hid hgp; have HF := Lib.hid hf; have HKL := Lib.hid hkl
  have hc := h.2.1; have hcm := h.2.2.1
  have HKN := Lib.hid (show (keysOf D).length = Maps.size D from keysOf_len hgp.1)
  have hszN : Maps.size D ≤ N := map_size (groups_map hg)
  have HUV := Lib.hid (fun (W : World) => uvarint_any n W (by omega))
  have kc := fun (w : World) (C : Array Value) (n c : Nat) => Lib.run_convert_bytes_const (P := Tryd.prog) w 24 5 C n c Tryd.underlying24 Tryd.underlying5
  have HB0 := Lib.hid ((Below.refl w.heap.size w).alloc (Nat.le_refl _) (.cells #[.int .u8 83, .int .u8 69, .int .u8 71, .int .u8 49] 5 (4, 5)))
  have HT := Lib.hid (fun (l : List UInt8) (W : World) (hl : l.length ≤ 512) => show Calls Tryd.prog 53 #[.string ⟨l.toArray⟩] W (Gives W (M.text l)) from text_any ⟨l.toArray⟩ W (by show l.length ≤ _; omega))
  clear h hd hg hgp hf hkl
  go_enter Tryd.func29, Tryd.ntmps29
  go_wp2_with fail
  refine (HUV.out _).mono ?_
  rintro e w1 ⟨v1, rfl, hO1, hb1⟩
  obtain ⟨g1, c1, hv1, -⟩ := hO1.form (by have := (M.uv_len n).1; omega)
  obtain ⟨n1, hn1⟩ : ∃ n1, (M.uv n).length = n1 := ⟨_, rfl⟩
  rw [hn1] at hv1
  subst hv1
  have hn1b : 1 ≤ n1 ∧ n1 ≤ 10 := by have := M.uv_len n; omega
  have HN1 := Lib.hid hn1
  have hold : ∀ j u, (bcells [83, 69, 71, 49])[j]? = some u → w1.cell? ((⟨w.heap.size, 0, none⟩ : Addr).add j) = some u := fun j u hu => by
    rw [add_none, Nat.zero_add]
    have hlt : w.heap.size < (w.alloc (.cells #[.int .u8 83, .int .u8 69, .int .u8 71, .int .u8 49] 5 (4, 5))).heap.size := by simp
    rw [hb1.cell (p := ⟨w.heap.size, j, none⟩) hlt, cell_of_row _ w.heap.size j #[.int .u8 83, .int .u8 69, .int .u8 71, .int .u8 49] 5 (4, 5) (heap_alloc_new w _)]
    rw [show (#[Value.int .u8 83, .int .u8 69, .int .u8 71, .int .u8 49] : Array Value)[j]? = (bcells [83, 69, 71, 49])[j]? by rw [← Array.getElem?_toList]; rfl]
    exact hu
  have HOLD := Lib.hid hold
  have HB1 := Lib.hid (HB0.out.trans (hb1.mono HB0.out.size))
  have hs1 := HB1.out.size
  have HNW := Lib.hid (show ∀ j u, (bcells (M.uv n))[j]? = some u → w1.cell? ((⟨g1, 0, none⟩ : Addr).add j) = some u from by
    obtain ⟨A', c', e1, hr⟩ := hO1.open_
    injection e1 with e1 _ _
    subst e1
    intro j u hu
    exact hr.cells.2 _ rfl (by omega) j u hu)
  clear hold hO1 hb1 hn1
  go_wp2_with (at_builtin; go_must (refine wpList_append_grows _ rfl (.tmp 13) (.tmp 17) _ rfl 5 i0 _ 1 1 Tryd.underlying24 HI.out HZ0.out HZ1.out HZ2.out rfl (by omega) (some ⟨w.heap.size, 0, none⟩) 4 4 (bcells [83, 69, 71, 49]) rfl (by simp) rfl (fun b hb j u hu => by injection hb with hb; subst hb; exact HOLD.out j u hu) ⟨g1, 0, none⟩ n1 c1 (bcells (M.uv n)) rfl (by have := HN1.out; rw [bcells_len]; omega) HNW.out (fun u hu => bcells_one _ u hu) (by omega) (by simp only [maxLen]; omega) (by omega) ?_))
  intro v2 w2 hrow2 hg2
  have hO2 : Own w2 w.heap.size 5 v2 ([83, 69, 71, 49] ++ M.uv n) := by
    have h0 : Own w2 w1.heap.size 5 v2 ([83, 69, 71, 49] ++ M.uv n) := by
      have e1 : ([83, 69, 71, 49] ++ M.uv n : List UInt8).length = 4 + n1 := by have := HN1.out; simp; omega
      have e2 : bcells ([83, 69, 71, 49] ++ M.uv n) = bcells [83, 69, 71, 49] ++ bcells (M.uv n) := by simp [bcells]
      unfold Own
      rw [e1, e2]
      exact hrow2
    exact h0.less hs1
  obtain ⟨acc2, hacc2⟩ : ∃ acc2, [83, 69, 71, 49] ++ M.uv n = acc2 := ⟨_, rfl⟩
  rw [hacc2] at hO2
  obtain ⟨A2, c2, hv2, -⟩ := hO2.open_
  obtain ⟨n2, hn2⟩ : ∃ n2, acc2.length = n2 := ⟨_, rfl⟩
  rw [hn2] at hv2
  subst hv2
  have HE2 := Lib.hid hacc2; have HO2 := Lib.hid hO2
  have HB2 := Lib.hid (show Below w.heap.size w w2 from HB1.out.trans ⟨hg2.os, hg2.tape, hg2.output, hg2.size, fun k hk => hg2.block k (Nat.lt_of_lt_of_le hk hs1) (by simp)⟩)
  clear hrow2 hg2 hO2 hacc2 hn2 HOLD HNW
  have HE0 := Lib.hid (show acc2 = M.segHead ds ++ ((ds.take 0).map M.docBytes).flatten by rw [← HE2.out, HN.out]; simp [M.segHead])
  have HL2 := Lib.hid (show acc2.length ≤ 14 by rw [← HE2.out]; have := (M.uv_len n).2; simp; omega)
  clear HE2 HB1 HB0
  go_wp2
  go_loopw [5, 21] (fun o p wr => ∃ (i n9 c9 : Nat) (A9 : Option Addr) (acc : List UInt8), p = .int .i64 i ∧ o = .slice A9 n9 c9 ∧ i ≤ n ∧ Hid (acc = M.segHead ds ++ ((ds.take i).map M.docBytes).flatten) ∧ Hid (acc.length ≤ 14 + 600 * i) ∧ Hid (Own wr w.heap.size 5 (.slice A9 n9 c9) acc) ∧ Hid (Below w.heap.size w wr)) (fun _ p _ => n - (intOf p).toNat)
  case atStart => exact ⟨0, n2, c2, A2, acc2, rfl, rfl, Nat.zero_le _, HE0, Lib.hid (by have := HL2.out; omega), HO2, HB2⟩
  case round =>
    obtain ⟨i, n9, c9, A9, acc, rfl, rfl, hi, HE, HL, HO, HB⟩ := hrel
    rename World => wr
    by_cases hlt : i < n
    · have hix : i < ds.length := by have := HN.out; omega
      obtain ⟨db, off, rfl, hdb, hcell⟩ := H.out.2.2.2 (by omega)
      obtain ⟨q0, q1, q2⟩ := hcell i hix
      have q0' := (HB.out.cell (p := ⟨db, off + i * 3, none⟩) hdb).trans q0
      have q1' := (HB.out.cell (p := ⟨db, off + i * 3 + 1, none⟩) hdb).trans q1
      have q2' := (HB.out.cell (p := ⟨db, off + i * 3 + 2, none⟩) hdb).trans q2
      have hil : (i : Int) < (n : Int) := by omega
      have HFT := Lib.hid (M.flat_take M.docBytes hix)
      obtain ⟨hd1, hd2, hd3, hd4⟩ := HD.out _ (List.getElem_mem hix)
      clear hcell q0 q1 q2
      generalize ds[i] = d at *
      obtain ⟨did, dtm, dtx⟩ := d
      simp only at q0' q1' q2' hd1 hd2 hd3 hd4
      have HDI := Lib.hid (DocIn.new wr ⟨did, dtm, dtx⟩)
      have hbA := (Below.refl wr.heap.size wr).alloc (Nat.le_refl _) (.cells #[.string ⟨did.toArray⟩, .int .i64 dtm, .string ⟨dtx.toArray⟩] 52)
      have HOA := Lib.hid (HO.out.below hbA)
      have HBA := Lib.hid (HB.out.trans (hbA.mono HB.out.size))
      have HZG := Lib.hid (fun W => zig_any dtm W hd3 hd4)
      obtain ⟨zn, hzn⟩ : ∃ zn : Nat, M.zig dtm = (zn : Int) := ⟨(M.zig dtm).toNat, by have := (M.zig_range dtm hd3 hd4).1; omega⟩
      have hzb : zn < 18446744073709551616 := by have := (M.zig_range dtm hd3 hd4).2; omega
      have HZN := Lib.hid (show (M.zig dtm).toNat = zn by omega)
      rw [hzn] at HZG
      have HUZ := Lib.hid (fun (W : World) => uvarint_any zn W hzb)
      clear hbA hzn
      go_wp2_with fail
      refine (HT.out did _ (by omega)).mono ?_
      rintro e w3 ⟨v3, rfl, hO3, hb3⟩
      obtain ⟨A3, c3, hv3, hr3⟩ := hO3.open_
      obtain ⟨n3, hn3⟩ : ∃ n3, (M.text did).length = n3 := ⟨_, rfl⟩
      rw [hn3] at hv3 hr3
      subst hv3
      have HR3 := Lib.hid hr3; have HN3 := Lib.hid hn3
      have HT3 := Lib.hid (show n3 ≤ 42 by have h := HN3.out; have h2 := (M.uv_len did.length).2; rw [← h]; simp only [M.text, List.length_append]; omega)
      have HA3 := Lib.hid (HOA.out.below hb3)
      have HB3 := Lib.hid (HBA.out.trans (hb3.mono HBA.out.size))
      have hs3 := HB3.out.size
      have HDI3 := Lib.hid (HDI.out.on hb3)
      clear hO3 hb3 hr3 hn3
      go_wp2_with (at_builtin; go_must (refine wpList_app _ rfl (.tmp 25) (.tmp 28) _ rfl w.heap.size w3.heap.size _ i0 Tryd.underlying24 HI.out HZ0.out HZ1.out HZ2.out (.slice A9 n9 c9) (acc) HA3.out rfl A3 n3 c3 (M.text did) HR3.out rfl (by have h1 := HL.out; have h2 := (M.uv_len did.length).2; simp [M.text]; omega) hs3 ?_))
      intro v4 w4 hO4 hg4 hat4
      obtain ⟨A4, c4, hv4, -⟩ := hO4.open_
      obtain ⟨n4, hn4⟩ : ∃ n4, (acc ++ (M.text did)).length = n4 := ⟨_, rfl⟩
      rw [hn4] at hv4
      subst hv4
      obtain ⟨acc4, hacc4⟩ : ∃ acc4, acc ++ (M.text did) = acc4 := ⟨_, rfl⟩
      rw [hacc4] at hO4
      have HE4 := Lib.hid hacc4; have HO4 := Lib.hid hO4
      have HB4 := Lib.hid (HB3.out.trans (below_own HA3.out hs3 hg4))
      have hbox4 := below_own HA3.out hs3 hg4
      have HDI4 := Lib.hid (HDI3.out.grown HA3.out hg4)
      have HL4 := Lib.hid (show acc4.length = acc.length + n3 by rw [← HE4.out, List.length_append, HN3.out])
      obtain ⟨e04, e14, e24⟩ := HDI4.out.cells
      clear hO4 hg4 hat4 hn4 hacc4 hbox4
      go_wp2_with fail
      refine (HZG.out _).mono ?_
      rintro e w4' ⟨rfl, hw4⟩
      subst hw4
      go_wp2_with fail
      refine (HUZ.out _).mono ?_
      rintro e w5 ⟨v5, rfl, hO5, hb5⟩
      obtain ⟨A5, c5, hv5, hr5⟩ := hO5.open_
      obtain ⟨n5, hn5⟩ : ∃ n5, (M.uv zn).length = n5 := ⟨_, rfl⟩
      rw [hn5] at hv5 hr5
      subst hv5
      have HR5 := Lib.hid hr5; have HN5 := Lib.hid hn5
      have HT5 := Lib.hid (show n5 ≤ 10 by have h := HN5.out; have h2 := (M.uv_len zn).2; omega)
      have HA5 := Lib.hid (HO4.out.below hb5)
      have HB5 := Lib.hid (HB4.out.trans (hb5.mono HB4.out.size))
      have hs5 := HB5.out.size
      have HDI5 := Lib.hid (HDI4.out.on hb5)
      clear hO5 hb5 hr5 hn5
      go_wp2_with (at_builtin; go_must (refine wpList_app _ rfl (.tmp 30) (.tmp 34) _ rfl w.heap.size w5.heap.size _ i0 Tryd.underlying24 HI.out HZ0.out HZ1.out HZ2.out (.slice A4 n4 c4) (acc4) HA5.out rfl A5 n5 c5 (M.uv zn) HR5.out rfl (by have h1 := HL.out; have h4 := HL4.out; have h5 := HT3.out; have h2 := (M.uv_len zn).2; omega) hs5 ?_))
      intro v6 w6 hO6 hg6 hat6
      obtain ⟨A6, c6, hv6, -⟩ := hO6.open_
      obtain ⟨n6, hn6⟩ : ∃ n6, (acc4 ++ (M.uv zn)).length = n6 := ⟨_, rfl⟩
      rw [hn6] at hv6
      subst hv6
      obtain ⟨acc6, hacc6⟩ : ∃ acc6, acc4 ++ (M.uv zn) = acc6 := ⟨_, rfl⟩
      rw [hacc6] at hO6
      have HE6 := Lib.hid hacc6; have HO6 := Lib.hid hO6
      have HB6 := Lib.hid (HB5.out.trans (below_own HA5.out hs5 hg6))
      have hbox6 := below_own HA5.out hs5 hg6
      have HDI6 := Lib.hid (HDI5.out.grown HA5.out hg6)
      have HL6 := Lib.hid (show acc6.length = acc4.length + n5 by rw [← HE6.out, List.length_append, HN5.out])
      obtain ⟨e06, e16, e26⟩ := HDI6.out.cells
      clear hO6 hg6 hat6 hn6 hacc6 hbox6
      go_wp2_with fail
      refine (HT.out dtx _ hd2).mono ?_
      rintro e w7 ⟨v7, rfl, hO7, hb7⟩
      obtain ⟨A7, c7, hv7, hr7⟩ := hO7.open_
      obtain ⟨n7, hn7⟩ : ∃ n7, (M.text dtx).length = n7 := ⟨_, rfl⟩
      rw [hn7] at hv7 hr7
      subst hv7
      have HR7 := Lib.hid hr7; have HN7 := Lib.hid hn7
      have HT7 := Lib.hid (show n7 ≤ 522 by have h := HN7.out; have h2 := (M.uv_len dtx.length).2; rw [← h]; simp only [M.text, List.length_append]; omega)
      have HA7 := Lib.hid (HO6.out.below hb7)
      have HB7 := Lib.hid (HB6.out.trans (hb7.mono HB6.out.size))
      have hs7 := HB7.out.size
      have HDI7 := Lib.hid (HDI6.out.on hb7)
      clear hO7 hb7 hr7 hn7
      go_wp2_with (at_builtin; go_must (refine wpList_app _ rfl (.tmp 36) (.tmp 39) _ rfl w.heap.size w7.heap.size _ i0 Tryd.underlying24 HI.out HZ0.out HZ1.out HZ2.out (.slice A6 n6 c6) (acc6) HA7.out rfl A7 n7 c7 (M.text dtx) HR7.out rfl (by have h1 := HL.out; have h4 := HL4.out; have h6 := HL6.out; have h5 := HT3.out; have h7 := HT5.out; have h2 := (M.uv_len dtx.length).2; simp [M.text]; omega) hs7 ?_))
      intro v8 w8 hO8 hg8 hat8
      obtain ⟨A8, c8, hv8, -⟩ := hO8.open_
      obtain ⟨n8, hn8⟩ : ∃ n8, (acc6 ++ (M.text dtx)).length = n8 := ⟨_, rfl⟩
      rw [hn8] at hv8
      subst hv8
      obtain ⟨acc8, hacc8⟩ : ∃ acc8, acc6 ++ (M.text dtx) = acc8 := ⟨_, rfl⟩
      rw [hacc8] at hO8
      have HE8 := Lib.hid hacc8; have HO8 := Lib.hid hO8
      have HB8 := Lib.hid (HB7.out.trans (below_own HA7.out hs7 hg8))
      have hbox8 := below_own HA7.out hs7 hg8
      have HDI8 := Lib.hid (HDI7.out.grown HA7.out hg8)
      have HL8 := Lib.hid (show acc8.length = acc6.length + n7 by rw [← HE8.out, List.length_append, HN7.out])
      obtain ⟨e08, e18, e28⟩ := HDI8.out.cells
      clear hO8 hg8 hat8 hn8 hacc8 hbox8
      have HE9 := Lib.hid (show acc8 = M.segHead ds ++ ((ds.take (i + 1)).map M.docBytes).flatten by
        rw [HFT.out, ← HE8.out, ← HE6.out, ← HE4.out, HE.out]
        simp only [M.docBytes, HZN.out, List.append_assoc])
      have HL9 := Lib.hid (show acc8.length ≤ 14 + 600 * (i + 1) by
        have h1 := HL.out; have h4 := HL4.out; have h6 := HL6.out; have h8 := HL8.out; have h5 := HT3.out; have h7 := HT5.out; have h9 := HT7.out; omega)
      go_wp2
      go_roundw
      case rel => exact ⟨i + 1, n8, c8, A8, acc8, by go_num, rfl, by omega, HE9, HL9, HO8, HB8⟩
      case measure => simp [intOf]; omega
    · have HEA := Lib.hid (show acc = M.segHead ds ++ (ds.map M.docBytes).flatten by rw [HE.out, List.take_of_length_le (by have := HN.out; omega)])
      have HGI := Lib.hid (groups_below HG.out HB.out)
      obtain ⟨sz, hsz⟩ : ∃ sz, Maps.size D = sz := ⟨_, rfl⟩
      rw [hsz] at hszN HKN
      have HUK := Lib.hid (fun (W : World) => uvarint_any sz W (by omega))
      have HLB := Lib.hid (show acc.length ≤ 2457614 by have := HL.out; omega)
      clear HL HE
      go_wp2_with fail
      rw [World.ownsMap.len (groups_map HGI.out) Tryd.underlying62 _, hsz]
      clear hsz
      go_wp2_with fail
      refine (HUK.out _).mono ?_
      rintro e w11 ⟨v11, rfl, hO11, hb11⟩
      obtain ⟨A11, c11, hv11, hr11⟩ := hO11.open_
      obtain ⟨n11, hn11⟩ : ∃ n11, (M.uv sz).length = n11 := ⟨_, rfl⟩
      rw [hn11] at hv11 hr11
      subst hv11
      have HR11 := Lib.hid hr11; have HN11 := Lib.hid hn11
      have HA11 := Lib.hid (HO.out.below hb11)
      have HB11 := Lib.hid (HB.out.trans (hb11.mono HB.out.size))
      have hs11 := HB11.out.size
      clear hO11 hb11 hr11 hn11
      go_wp2_with (at_builtin; go_must (refine wpList_app _ rfl (.tmp 42) (.tmp 46) _ rfl w.heap.size w11.heap.size _ i0 Tryd.underlying24 HI.out HZ0.out HZ1.out HZ2.out (.slice A9 n9 c9) (acc) HA11.out rfl A11 n11 c11 (M.uv sz) HR11.out rfl (by have h1 := HLB.out; have h2 := (M.uv_len sz).2; omega) hs11 ?_))
      intro v12 w12 hO12 hg12 hat12
      obtain ⟨A12, c12, hv12, -⟩ := hO12.open_
      obtain ⟨n12, hn12⟩ : ∃ n12, (acc ++ (M.uv sz)).length = n12 := ⟨_, rfl⟩
      rw [hn12] at hv12
      subst hv12
      obtain ⟨acc12, hacc12⟩ : ∃ acc12, acc ++ (M.uv sz) = acc12 := ⟨_, rfl⟩
      rw [hacc12] at hO12
      have HE12 := Lib.hid hacc12; have HO12 := Lib.hid hO12
      have HB12 := Lib.hid (HB11.out.trans (below_own HA11.out hs11 hg12))
      have hbox12 := below_own HA11.out hs11 hg12
      have HL12 := Lib.hid (show acc12.length = acc.length + n11 by rw [← HE12.out, List.length_append, HN11.out])
      clear hO12 hg12 hat12 hn12 hacc12 hbox12
      have HG12 := Lib.hid (groups_below HG.out HB12.out)
      have HKEY := Lib.hid (keysInOrder_any (b + 1) b N D w12 HG12.out hN)
      have HN11b := Lib.hid (show n11 ≤ 10 by have h := HN11.out; have h2 := (M.uv_len sz).2; omega)
      go_wp2_with fail
      refine HKEY.out.mono ?_
      rintro e w13 ⟨Ak, ck, rfl, hrdk, hb13, hnewk⟩
      rw [HKN.out] at hrdk hnewk ⊢
      have hckc := hrdk.2.1; have hckm := hrdk.max
      have HRD13 := Lib.hid hrdk
      have HO13 := Lib.hid (HO12.out.below hb13)
      have HB13 := Lib.hid (HB12.out.trans (hb13.mono HB12.out.size))
      have HVK13 := Lib.hid (show ∀ a, Ak = some a → 0 < sz → (Value.slice A12 n12 c12).ownBlock ≠ some a.block from fun a ha h0 e => by
        obtain ⟨b2, o2, e3, hle⟩ := hnewk h0
        have := (HO12.out.lt _ e).2
        rw [ha] at e3; injection e3 with e3; rw [e3] at this; simp only at this; omega)
      have HE13 := Lib.hid (show acc12 = M.segHead ds ++ (ds.map M.docBytes).flatten ++ M.uv sz ++ (((keysOf D).take 0).map (M.termBytes f)).flatten by rw [← HE12.out, HEA.out]; simp)
      have HL13 := Lib.hid (show acc12.length ≤ 2457624 by have h1 := HL12.out; have h2 := HN11b.out; have h3 := HLB.out; omega)
      clear hrdk hb13 hnewk HKEY HG12 HGI HA11 HR11 HB11 HE12 HL12 HEA
      go_wp2
      go_loopw [5, 51] (fun o p wr => ∃ (k n9 c9 : Nat) (A9 : Option Addr) (acc : List UInt8), p = .int .i64 k ∧ o = .slice A9 n9 c9 ∧ k ≤ sz ∧ Hid (acc = M.segHead ds ++ (ds.map M.docBytes).flatten ++ M.uv sz ++ (((keysOf D).take k).map (M.termBytes f)).flatten) ∧ Hid (acc.length ≤ 2457624 + 41100 * k) ∧ Hid (Own wr w.heap.size 5 (.slice A9 n9 c9) acc) ∧ Hid (Below w.heap.size w wr) ∧ Hid (RdV wr wr.heap.size Ak sz ck (Mem.strs (keysOf D))) ∧ Hid (∀ a, Ak = some a → 0 < sz → (Value.slice A9 n9 c9).ownBlock ≠ some a.block)) (fun _ p _ => sz - (intOf p).toNat)
      case atStart => exact ⟨0, n12, c12, A12, acc12, rfl, rfl, Nat.zero_le _, HE13, Lib.hid (by have := HL13.out; omega), HO13, HB13, HRD13, HVK13⟩
      case round =>
        obtain ⟨k, n14, c14, A14, acc14, rfl, rfl, hk, HE14, HL14, HO14, HB14, HRD14, HVK14⟩ := hrel
        rename World => w14
        by_cases hlt2 : k < sz
        · have hkx : k < (keysOf D).length := by rw [HKN.out]; exact hlt2
          obtain ⟨kb, off2, rfl, hkb, q⟩ := HRD14.out.at_ hlt2
          rw [Mem.strs_at hkx] at q
          have hkl : (k : Int) < (sz : Int) := by omega
          have HTL := Lib.hid (HKL.out _ (List.getElem_mem hkx))
          have HFT := Lib.hid (M.flat_take (M.termBytes f) hkx)
          have HG14 := Lib.hid (groups_below HG.out HB14.out)
          generalize (keysOf D)[k] = t at *
          have HKEYt := Lib.hid (keyOf_text t (by have := HTL.out; omega))
          go_wp2_with (at_lookup; go_must (refine wpList_lookup_groups _ rfl (.tmp 56) (.tmp 57) _ rfl 9 42 3 .i64 Tryd.keyed Tryd.underlying62 (Tryd.zeroInts _) (b + 1) b N D rfl HG14.out (by simp only [maxLen]; omega) _ _ rfl HKEYt.out ?_))
          intro v zs hat hoi hzl hback
          have hzf := HGP.out.at_ hat hoi
          obtain ⟨hf1, hf2, hf3⟩ := HF.out t
          subst hzf
          have hov : OwnV w14 (b + 1) 3 v (ints (f t)) := by
            have := hoi.1
            unfold OwnV
            rw [ints_len]
            exact this
          obtain ⟨Av, cv, hvv, -⟩ := hov.form
          rw [ints_len] at hvv
          subst hvv
          have henc := encode_any Av (f t).length cv (f t) w14 hov.rd hf3 (by omega)
          unfold EncTells at henc
          rw [M.encErr_yes hf1, M.encOut_yes hf1] at henc
          have HENC := Lib.hid henc
          obtain ⟨ft, hft⟩ : ∃ ft, f t = ft := ⟨_, rfl⟩
          have HFTT := Lib.hid (show M.termBytes f t = M.text t ++ M.enc ft by unfold M.termBytes; rw [hft])
          have HELN := Lib.hid (show (M.enc ft).length ≤ 40970 by have := segEnc_len (f t); rw [hft] at this; rw [hft] at hf2; omega)
          rw [hft] at HENC ⊢
          clear hat hoi hzl hback hov henc hf1 hf2 hf3 hft
          go_wp2_with fail
          refine HENC.out.mono ?_
          rintro e w15 ⟨v15, rfl, hO15, hb15⟩
          obtain ⟨A15, c15, hv15, -⟩ := hO15.open_
          obtain ⟨n15, hn15⟩ : ∃ n15, (M.enc ft).length = n15 := ⟨_, rfl⟩
          rw [hn15] at hv15
          subst hv15
          have HN15 := Lib.hid hn15
          have HOE := Lib.hid hO15
          have HO15 := Lib.hid (HO14.out.below hb15)
          have HB15 := Lib.hid (HB14.out.trans (hb15.mono HB14.out.size))
          have HRD15 := Lib.hid (rdv_below HRD14.out hb15)
          have HNE := Lib.hid (show ∀ g, (Value.slice A15 n15 c15).ownBlock = some g → (Value.slice A14 n14 c14).ownBlock ≠ some g from fun g hg e => by
            have h1 := (HOE.out.lt g hg).1; have h2 := (HO14.out.lt g e).2; omega)
          clear hO15 hb15 hn15 HENC HRD14 q
          have HVK15 := HVK14
          go_wp2_with fail
          refine (HT.out t _ (by have := HTL.out; omega)).mono ?_
          rintro e w16 ⟨v16, rfl, hO16, hb16⟩
          obtain ⟨A16, c16, hv16, hr16⟩ := hO16.open_
          obtain ⟨n16, hn16⟩ : ∃ n16, (M.text t).length = n16 := ⟨_, rfl⟩
          rw [hn16] at hv16 hr16
          subst hv16
          have HR16 := Lib.hid hr16; have HN16 := Lib.hid hn16
          have HA16 := Lib.hid (HO15.out.below hb16)
          have HB16 := Lib.hid (HB15.out.trans (hb16.mono HB15.out.size))
          have hs16 := HB16.out.size
          have HNT := Lib.hid (show n16 ≤ 75 by have h := hn16; have h2 := (M.uv_len t.length).2; have h3 := HTL.out; rw [← h]; simp only [M.text, List.length_append]; omega)
          have HRD16 := Lib.hid (rdv_below HRD15.out hb16)
          have HVK16 := HVK15
          have HOE16 := Lib.hid (HOE.out.below hb16)
          clear hO16 hb16 hr16 hn16
          go_wp2_with (at_builtin; go_must (refine wpList_app _ rfl (.tmp 62) (.tmp 64) _ rfl w.heap.size w16.heap.size _ i0 Tryd.underlying24 HI.out HZ0.out HZ1.out HZ2.out (.slice A14 n14 c14) (acc14) HA16.out rfl A16 n16 c16 (M.text t) HR16.out rfl (by have h1 := HL14.out; have h2 := HNT.out; have h3 := HN16.out; omega) hs16 ?_))
          intro v17 w17 hO17 hg17 hat17
          obtain ⟨A17, c17, hv17, -⟩ := hO17.open_
          obtain ⟨n17, hn17⟩ : ∃ n17, (acc14 ++ (M.text t)).length = n17 := ⟨_, rfl⟩
          rw [hn17] at hv17
          subst hv17
          obtain ⟨acc17, hacc17⟩ : ∃ acc17, acc14 ++ (M.text t) = acc17 := ⟨_, rfl⟩
          rw [hacc17] at hO17
          have HE17 := Lib.hid hacc17; have HO17 := Lib.hid hO17
          have HB17 := Lib.hid (HB16.out.trans (below_own HA16.out hs16 hg17))
          have hbox17 := below_own HA16.out hs16 hg17
          have HRD17 := Lib.hid (rdv_grown HRD16.out hg17 HVK16.out)
          have HVK17 := Lib.hid (show ∀ a, (some (⟨kb, off2, none⟩ : Addr)) = some a → 0 < sz → (Value.slice A17 n17 c17).ownBlock ≠ some a.block from fun a ha h0 e => by
            rcases hat17 with h | h
            · rw [h] at e; exact HVK16.out a ha h0 e
            · rw [h] at e; injection e with e
              obtain ⟨b2, o2, e3, hb3, _⟩ := HRD16.out.2.2.2 h0
              rw [ha] at e3; injection e3 with e3; rw [e3] at e; simp only at e; omega)
          have HL17 := Lib.hid (show acc17.length = acc14.length + n16 by rw [← HE17.out, List.length_append, HN16.out])
          have HOE17 := Lib.hid (HOE16.out.kept hg17 (by
            cases hv : (Value.slice A15 n15 c15).ownBlock with
            | none => exact .inl rfl
            | some g => exact .inr (fun e => HNE.out g hv e.symm)))
          clear hO17 hg17 hat17 hn17 hacc17 hbox17
          have HRE := Lib.hid (show Rd w17 w17.heap.size A15 n15 c15 (M.enc ft) by
            obtain ⟨A', c', e1, hr⟩ := HOE17.out.open_
            injection e1 with e1 e2 e3
            subst e1 e3
            rw [HN15.out] at hr
            exact hr)
          have hs17 := HB17.out.size
          go_wp2_with (at_builtin; go_must (refine wpList_app _ rfl (.tmp 66) (.tmp 67) _ rfl w.heap.size w17.heap.size _ i0 Tryd.underlying24 HI.out HZ0.out HZ1.out HZ2.out (.slice A17 n17 c17) (acc17) HO17.out rfl A15 n15 c15 (M.enc ft) HRE.out rfl (by have h1 := HL14.out; have h2 := HNT.out; have h4 := HL17.out; have h3 := HN15.out; have h5 := HELN.out; omega) hs17 ?_))
          intro v18 w18 hO18 hg18 hat18
          obtain ⟨A18, c18, hv18, -⟩ := hO18.open_
          obtain ⟨n18, hn18⟩ : ∃ n18, (acc17 ++ (M.enc ft)).length = n18 := ⟨_, rfl⟩
          rw [hn18] at hv18
          subst hv18
          obtain ⟨acc18, hacc18⟩ : ∃ acc18, acc17 ++ (M.enc ft) = acc18 := ⟨_, rfl⟩
          rw [hacc18] at hO18
          have HE18 := Lib.hid hacc18; have HO18 := Lib.hid hO18
          have HB18 := Lib.hid (HB17.out.trans (below_own HO17.out hs17 hg18))
          have hbox18 := below_own HO17.out hs17 hg18
          have HRD18 := Lib.hid (rdv_grown HRD17.out hg18 HVK17.out)
          have HVK18 := Lib.hid (show ∀ a, (some (⟨kb, off2, none⟩ : Addr)) = some a → 0 < sz → (Value.slice A18 n18 c18).ownBlock ≠ some a.block from fun a ha h0 e => by
            rcases hat18 with h | h
            · rw [h] at e; exact HVK17.out a ha h0 e
            · rw [h] at e; injection e with e
              obtain ⟨b2, o2, e3, hb3, _⟩ := HRD17.out.2.2.2 h0
              rw [ha] at e3; injection e3 with e3; rw [e3] at e; simp only at e; omega)
          have HL18 := Lib.hid (show acc18.length = acc17.length + n15 by rw [← HE18.out, List.length_append, HN15.out])
          clear hO18 hg18 hat18 hn18 hacc18 hbox18
          have HE19 := Lib.hid (show acc18 = M.segHead ds ++ (ds.map M.docBytes).flatten ++ M.uv sz ++ (((keysOf D).take (k + 1)).map (M.termBytes f)).flatten by
            rw [HFT.out, HFTT.out, ← HE18.out, ← HE17.out, HE14.out]
            simp only [List.append_assoc])
          have HL19 := Lib.hid (show acc18.length ≤ 2457624 + 41100 * (k + 1) by
            have h1 := HL14.out; have h2 := HNT.out; have h4 := HL17.out; have h3 := HN15.out; have h5 := HELN.out; have h6 := HL18.out; omega)
          go_wp2
          go_roundw
          case rel => exact ⟨k + 1, n18, c18, A18, acc18, by go_num, rfl, by omega, HE19, HL19, HO18, HB18, HRD18, HVK18⟩
          case measure => simp [intOf]; omega
        · have HF := Lib.hid (show acc14 = M.segBody ds (keysOf D) f by
            rw [HE14.out, show (keysOf D).take k = keysOf D from List.take_of_length_le (by rw [HKN.out]; omega)]
            unfold M.segBody
            rw [HKN.out])
          go_wp2
          go_ret
          have := HO14.out
          rw [HF.out] at this
          exact ⟨_, rfl, this, HB14.out⟩
end Go.Proofs.YthhgelaifapmmaaDoor

namespace Go.Proofs.YthhgelaifapmmaaDoor
open Go.RowKit Mem Go.ChangeShapes Go.Sort
set_option linter.unusedVariables false
set_option maxRecDepth 100000

set_option maxHeartbeats 2000000 in
theorem segSum_any (A : Option Addr) (n c B : Nat) (l : List UInt8) (w : World) (h : Rd w B A n c l) : Calls Tryd.prog 31 #[.slice A n c] w (Gives w (M.four (M.sum l))) := by
  have HS := Lib.hid (sum_any A n c B l w h)
  have hlt := M.sum_lt l
  clear h
  generalize M.sum l = s at *
  go_enter Tryd.func31, Tryd.ntmps31
  go_wp2_with fail
  refine HS.out.mono ?_
  rintro e w1 ⟨rfl, rfl⟩
  go_wp2
  go_ret
  exact ⟨_, rfl, Own.fresh w w.heap.size 5 _ (M.four s) (four_cells s hlt) (Nat.le_refl _) (by rw [M.four_len]; omega), (Below.refl _ w).alloc (Nat.le_refl _) _⟩

/-- can there be a segment of these entries? -/
def segErr (ds : List M.D) : Int := if 4096 < ds.length then 2 else if (ds.all fun d => M.formB d.id d.text) then 0 else 3

set_option maxHeartbeats 2000000 in
theorem check_any (A : Option Addr) (n c : Nat) (ds : List M.D) (w : World) (h : RdDocs w w.heap.size A n c ds) : Calls Tryd.prog 28 #[.slice A n c] w (SaysZ (segErr ds) w) := by
  have H := Lib.hid h; have HN := Lib.hid h.1
  have hc := h.2.1; have hcm := h.2.2.1
  have HI0 := Lib.hid (show ∀ j (hj : j < ds.length), j < 0 → M.formB ds[j].id ds[j].text = true from fun j _ h => by omega)
  have HB0 := Lib.hid (Below.refl w.heap.size w)
  have HSE := Lib.hid (show segErr ds = if 4096 < ds.length then 2 else if (ds.all fun d => M.formB d.id d.text) then 0 else 3 from rfl)
  clear h
  by_cases hbig : 4096 < n
  · have HX := Lib.hid (show segErr ds = 2 by rw [HSE.out, if_pos (by have := HN.out; omega)])
    go_enter Tryd.func28, Tryd.ntmps28
    go_wp2
    go_ret
    exact ⟨by rw [HX.out]; rfl, Below.refl _ _⟩
  · have HSF := Lib.hid (show segErr ds = if (ds.all fun d => M.formB d.id d.text) then 0 else 3 by rw [HSE.out, if_neg (by have := HN.out; omega)])
    go_enter Tryd.func28, Tryd.ntmps28
    go_wp2
    go_loopw [10] (fun p wr => ∃ i : Nat, p = .int .i64 i ∧ i ≤ n ∧ Hid (∀ j (hj : j < ds.length), j < i → M.formB ds[j].id ds[j].text = true) ∧ Hid (Below w.heap.size w wr)) (fun p _ => n - (intOf p).toNat)
    case atStart => exact ⟨0, rfl, Nat.zero_le _, HI0, HB0⟩
    case round =>
      obtain ⟨i, rfl, hi, HJ, HB⟩ := hrel
      rename World => wr
      by_cases hlt : i < n
      · have hix : i < ds.length := by have := HN.out; omega
        obtain ⟨db, off, rfl, hdb, hcell⟩ := H.out.2.2.2 (by omega)
        obtain ⟨q0, q1, q2⟩ := hcell i hix
        have q0' := (HB.out.cell (p := ⟨db, off + i * 3, none⟩) hdb).trans q0
        have q1' := (HB.out.cell (p := ⟨db, off + i * 3 + 1, none⟩) hdb).trans q1
        have q2' := (HB.out.cell (p := ⟨db, off + i * 3 + 2, none⟩) hdb).trans q2
        have hil : (i : Int) < (n : Int) := by omega
        have HFM := Lib.hid (fun W => form_any ds[i] W)
        have HJ2 := Lib.hid (show M.formB ds[i].id ds[i].text = true → ∀ j (hj : j < ds.length), j < i + 1 → M.formB ds[j].id ds[j].text = true from fun ht j hj h => by
          by_cases e : j = i
          · subst e; exact ht
          · exact HJ.out j hj (by omega))
        have HNO := Lib.hid (show M.formB ds[i].id ds[i].text = false → segErr ds = 3 from fun hf => by
          rw [HSF.out, if_neg]
          intro ha
          have := List.all_eq_true.1 ha ds[i] (List.getElem_mem hix)
          rw [hf] at this; cases this)
        have hbA := (Below.refl wr.heap.size wr).alloc (Nat.le_refl _) (.cells #[.string ⟨ds[i].id.toArray⟩, .int .i64 ds[i].time, .string ⟨ds[i].text.toArray⟩] 52)
        have HBA := Lib.hid (HB.out.trans (hbA.mono HB.out.size))
        clear hcell q0 q1 q2 hbA
        generalize ds[i] = d at *
        obtain ⟨did, dtm, dtx⟩ := d
        unfold dval at HFM
        simp only at q0' q1' q2' HFM HJ2 HNO HBA
        generalize M.formB did dtx = bo at *
        go_wp2_with fail
        refine (HFM.out _).mono ?_
        rintro e w2 ⟨rfl, hb2⟩
        have HB2 := Lib.hid (HBA.out.trans (hb2.mono HBA.out.size))
        clear hb2
        cases bo
        · have HN3 := Lib.hid (HNO.out rfl)
          clear HNO HJ2
          go_wp2
          go_ret
          exact ⟨by rw [HN3.out]; rfl, HB2.out⟩
        · have HJ3 := Lib.hid (HJ2.out rfl)
          clear HNO HJ2
          go_wp2
          go_roundw
          case rel => exact ⟨i + 1, by go_num, by omega, HJ3, HB2⟩
          case measure => simp [intOf]; omega
      · have HX := Lib.hid (show segErr ds = 0 by
          rw [HSF.out, if_pos]
          rw [List.all_eq_true]
          intro d hd
          obtain ⟨j, hj, rfl⟩ := List.mem_iff_getElem.1 hd
          exact HJ.out j hj (by have := HN.out; omega))
        go_wp2
        go_ret
        exact ⟨by rw [HX.out]; rfl, HB.out⟩

theorem nat_rise : ∀ (l : List Nat), l.Pairwise (· < ·) → ∀ last : Int, (∀ x ∈ l, last < (x : Int)) → M.rise last (l.map Int.ofNat) = true
  | [], _, _, _ => rfl
  | x :: r, hp, last, hl => by
    obtain ⟨h1, h2⟩ := List.pairwise_cons.1 hp
    rw [List.map_cons, M.rise_cons]
    exact ⟨hl x (by simp), nat_rise r h2 _ (fun y hy => by have := h1 y hy; show (x : Int) < y; omega)⟩
theorem posts_fit (ds : List M.D) (t : List UInt8) : M.rise (-1) (M.posts ds t) = true ∧ (M.posts ds t).length ≤ ds.length ∧ ∀ k ∈ M.posts ds t, 0 ≤ k ∧ k < ds.length := by
  unfold M.posts M.postsTo
  refine ⟨nat_rise _ (List.Pairwise.filter _ List.pairwise_lt_range) _ (fun x _ => by omega), ?_, fun k hk => ?_⟩
  · rw [List.length_map]
    exact Nat.le_trans (List.length_filter_le _ _) (by simp)
  · obtain ⟨x, hx, rfl⟩ := List.mem_map.1 hk
    have := List.mem_range.1 (List.mem_filter.1 hx).1
    exact ⟨by show (0 : Int) ≤ (x : Int); omega, by show (x : Int) < _; omega⟩
theorem posts_in {ds : List M.D} {t : List UInt8} (h : M.posts ds t ≠ []) : ∃ d ∈ ds, t ∈ M.terms d.text := by
  unfold M.posts M.postsTo at h
  have h2 : ((List.range ds.length).filter fun j => decide (t ∈ M.terms (ds[j]?.getD ⟨[], 0, []⟩).text)) ≠ [] := fun e => h (by rw [e]; rfl)
  obtain ⟨x, hx⟩ := List.exists_mem_of_ne_nil _ h2
  obtain ⟨h3, h4⟩ := List.mem_filter.1 hx
  have hlt := List.mem_range.1 h3
  refine ⟨ds[x], List.getElem_mem hlt, ?_⟩
  simpa [hlt] using h4
theorem key_there {w : World} {R : Value → Option (DataW Unit × List MemPlace)} {b n : Nat} {D : DataW Unit} {f : List UInt8 → List Int} (h : w.ownsMap Tryd.prog 9 R b n D) (hg : Grp D f) {t : List UInt8} (ht : t ∈ keysOf D) : f t ≠ [] := by
  have ht : t ∈ strKeys D := (List.mergeSort_perm _ _).mem_iff.1 ht
  obtain ⟨es, rfl, hko⟩ := h.keysOf
  intro hf
  obtain ⟨p, hp, hpt⟩ := List.mem_map.1 ht
  obtain ⟨v, hv⟩ := hko p hp
  obtain ⟨y, _, hy, _⟩ := Maps.keyOf_str Tryd.underlying9 hv
  rw [hy] at hpt
  have hpt : y = t := hpt
  subst hpt
  have h1 := hg.2 y .nil
  have h2 := hg.2 y (.slice [] [])
  rw [if_pos hf] at h1 h2
  have hs : p.1.sameKey (.string y) = true := by rw [hy]; simp [Lit.sameKey]
  cases hfd : es.find? (fun p => p.1.sameKey (.string y)) with
  | none => have := List.find?_eq_none.1 hfd p hp; rw [hs] at this; exact this rfl
  | some p2 =>
    have e1 : (DataW.map es).atKey (.string y) .nil = p2.2 := by simp only [DataW.atKey, hfd]
    have e2 : (DataW.map es).atKey (.string y) (.slice [] []) = p2.2 := by simp only [DataW.atKey, hfd]
    rw [e1] at h1
    rw [e2, h1] at h2
    cases h2
theorem fits_of {d : M.D} (h : M.formB d.id d.text = true) (ht : -9223372036854775808 ≤ d.time ∧ d.time ≤ 9223372036854775807) : Fits d := by
  unfold M.formB at h
  simp only [Bool.and_eq_true, decide_eq_true_eq] at h
  exact ⟨h.1.1.2, h.1.2, ht.1, ht.2⟩
end Go.Proofs.YthhgelaifapmmaaDoor

namespace Go.Proofs.YthhgelaifapmmaaDoor.M
/-- all terms of some entries, rising -/
def keys (ds : List D) : List T := gather (ds.map fun d => terms d.text).flatten
def segPre (ds : List D) : List UInt8 := segBody ds (keys ds) (posts ds)
/-- the bytes of a segment -/
def segBytes (ds : List D) : List UInt8 := segPre ds ++ four (sum (segPre ds))
theorem mem_posts {ds : List D} {t : T} : posts ds t ≠ [] ↔ ∃ d ∈ ds, t ∈ terms d.text := by
  constructor
  · intro h
    unfold posts postsTo at h
    have h2 : ((List.range ds.length).filter fun j => decide (t ∈ terms (ds[j]?.getD ⟨[], 0, []⟩).text)) ≠ [] := fun e => h (by rw [e]; rfl)
    obtain ⟨x, hx⟩ := List.exists_mem_of_ne_nil _ h2
    obtain ⟨h3, h4⟩ := List.mem_filter.1 hx
    have hlt := List.mem_range.1 h3
    exact ⟨ds[x], List.getElem_mem hlt, by simpa [hlt] using h4⟩
  · rintro ⟨d, hd, ht⟩ e
    obtain ⟨x, hx, rfl⟩ := List.mem_iff_getElem.1 hd
    have : (x : Int) ∈ posts ds t := by
      unfold posts postsTo
      refine List.mem_map.2 ⟨x, List.mem_filter.2 ⟨List.mem_range.2 hx, ?_⟩, rfl⟩
      simpa [hx] using ht
    rw [e] at this
    cases this
theorem mem_keys {ds : List D} {t : T} : t ∈ keys ds ↔ posts ds t ≠ [] := by
  rw [mem_posts]
  unfold keys
  rw [mem_gather, List.mem_flatten]
  constructor
  · rintro ⟨l, hl, ht⟩
    obtain ⟨d, hd, rfl⟩ := List.mem_map.1 hl
    exact ⟨d, hd, ht⟩
  · rintro ⟨d, hd, ht⟩
    exact ⟨_, List.mem_map.2 ⟨d, hd, rfl⟩, ht⟩
end Go.Proofs.YthhgelaifapmmaaDoor.M
namespace Go.Proofs.YthhgelaifapmmaaDoor
open Go.RowKit Mem Go.ChangeShapes Go.Sort
set_option linter.unusedVariables false
set_option maxRecDepth 100000

theorem keys_are {w : World} {R : Value → Option (DataW Unit × List MemPlace)} {b n : Nat} {D : DataW Unit} {ds : List M.D} (h : w.ownsMap Tryd.prog 9 R b n D) (hg : Grp D (M.posts ds)) : keysOf D = M.keys ds := by
  refine M.rising_ext _ _ ?_ (M.gather_rising _) (fun t => ?_)
  · have hnd : (strKeys D).Nodup := by
      obtain ⟨es, hD, hpw, _⟩ := h.entries Tryd.keyed
      obtain ⟨es', hD', hko⟩ := h.keysOf
      obtain rfl : es = es' := by rw [hD] at hD'; simpa using hD'
      subst hD
      show (es.map fun p => strOf p.1).Nodup
      refine List.pairwise_map.2 (hpw.imp_of_mem fun {p q} hp' hq' hne e => hne ?_)
      obtain ⟨a, ha⟩ := hko p hp'
      obtain ⟨b, hb⟩ := hko q hq'
      obtain ⟨x, _, hx, _⟩ := Maps.keyOf_str Tryd.underlying9 ha
      obtain ⟨y, _, hy, _⟩ := Maps.keyOf_str Tryd.underlying9 hb
      rw [hx, hy] at e ⊢
      exact congrArg _ e
    have hnd2 : (keysOf D).Nodup := (List.mergeSort_perm _ _).nodup_iff.2 hnd
    have hs : (keysOf D).Pairwise (fun a b => decide (a ≤ b) = true) := List.pairwise_mergeSort (fun a b c h1 h2 => by simp only [decide_eq_true_eq] at *; exact List.le_trans h1 h2) (fun a b => by simp only [Bool.or_eq_true, decide_eq_true_eq]; exact List.le_total a b) _
    refine (hs.and hnd2).imp (fun {a b} hab => ?_)
    have h1 := of_decide_eq_true hab.1
    rcases Std.lt_trichotomy a b with h | h | h
    · exact h
    · exact absurd h hab.2
    · exact absurd h1 (List.not_le.2 h)
  · rw [M.mem_keys]
    constructor
    · exact key_there h hg
    · intro hf
      refine (List.mergeSort_perm _ _).mem_iff.2 ?_
      obtain ⟨es, rfl⟩ := hg.1
      have h1 := hg.2 t .nil
      rw [if_neg hf] at h1
      cases hfd : es.find? (fun p => p.1.sameKey (.string t)) with
      | none =>
        have e1 : (DataW.map es).atKey (.string t) .nil = .nil := by simp only [DataW.atKey, hfd]
        rw [e1] at h1; cases h1
      | some p =>
        have hp := List.mem_of_find?_eq_some hfd
        have hs : p.1 = .string t := WideAt.sameKey_eq (by have := List.find?_some hfd; simpa using this)
        exact List.mem_map.2 ⟨p, hp, by rw [hs]; rfl⟩

/-- the bytes, or the error -/
def SegBuilt (ds : List M.D) (w : World) (e : Ending) (w' : World) : Prop :=
  Below w.heap.size w w' ∧ ((segErr ds = 0 ∧ ∃ v, e = .returned (.tuple #[v, .int .i64 0]) ∧ Own w' w.heap.size 5 v (M.segBytes ds)) ∨ (segErr ds ≠ 0 ∧ e = .returned (.tuple #[.slice none 0 0, .int .i64 (segErr ds)])))
theorem segErr_ok {ds : List M.D} (h : segErr ds = 0) : ds.length ≤ 4096 ∧ ∀ d ∈ ds, M.formB d.id d.text = true := by
  unfold segErr at h
  split at h
  · cases h
  · rename_i hl
    split at h
    · rename_i ha
      exact ⟨by omega, List.all_eq_true.1 ha⟩
    · cases h

theorem flat_len {α : Type} (g : α → List UInt8) (B : Nat) : ∀ (l : List α), (∀ x ∈ l, (g x).length ≤ B) → (l.map g).flatten.length ≤ B * l.length
  | [], _ => by simp
  | x :: r, h => by
    have h1 := h x (by simp)
    have h2 := flat_len g B r (fun y hy => h y (by simp [hy]))
    rw [List.map_cons, List.flatten_cons, List.length_append, List.length_cons, Nat.mul_succ]
    omega
theorem keys_len {ds : List M.D} (hl : ds.length ≤ 4096) (hf : ∀ d ∈ ds, Fits d) : (M.keys ds).length ≤ 4194304 := by
  unfold M.keys
  refine Nat.le_trans (gather_len _) ?_
  have : ∀ l : List M.D, (∀ d ∈ l, Fits d) → (l.map fun d => M.terms d.text).flatten.length ≤ 1024 * l.length := by
    intro l
    induction l with
    | nil => intro _; simp
    | cons x r ih =>
      intro h
      have h1 := ih (fun y hy => h y (by simp [hy]))
      have h2 := terms_len x.text
      have h3 := (h x (by simp)).2.1
      rw [List.map_cons, List.flatten_cons, List.length_append, List.length_cons]
      omega
  have := this ds hf
  omega
theorem text_len (l : List UInt8) : (M.text l).length ≤ 10 + l.length := by
  have := (M.uv_len l.length).2
  unfold M.text
  rw [List.length_append]; omega
theorem segPre_len {ds : List M.D} (hl : ds.length ≤ 4096) (hf : ∀ d ∈ ds, Fits d) : (M.segPre ds).length ≤ 140737488000000 := by
  unfold M.segPre M.segBody M.segHead
  have h1 := flat_len M.docBytes 600 ds (fun d hd => by
    have e1 := text_len d.id; have e2 := text_len d.text; have e3 := (M.uv_len (M.zig d.time).toNat).2
    obtain ⟨f1, f2, _⟩ := hf d hd
    unfold M.docBytes
    rw [List.length_append, List.length_append]; omega)
  have h2 := flat_len (M.termBytes (M.posts ds)) 41100 (M.keys ds) (fun t ht => by
    obtain ⟨d, hd, hdt⟩ := M.mem_posts.1 (M.mem_keys.1 ht)
    have e1 := text_len t; have e2 := M.terms_short _ t hdt; have e3 := segEnc_len (M.posts ds t); have e4 := (posts_fit ds t).2.1
    unfold M.termBytes
    rw [List.length_append]; omega)
  have h3 := keys_len hl hf
  have h4 := (M.uv_len ds.length).2; have h5 := (M.uv_len (M.keys ds).length).2
  have h6 : 41100 * (M.keys ds).length ≤ 41100 * 4194304 := Nat.mul_le_mul_left _ h3
  simp only [List.length_append, List.length_cons, List.length_nil]
  omega

set_option maxHeartbeats 4000000 in
theorem build_any (A : Option Addr) (n c : Nat) (ds : List M.D) (w : World) (h : RdDocs w w.heap.size A n c ds) (htm : ∀ d ∈ ds, -9223372036854775808 ≤ d.time ∧ d.time ≤ 9223372036854775807) (hT : Tabs w) : Calls Tryd.prog 11 #[.slice A n c] w (SegBuilt ds w) := by
  obtain ⟨i0, hi0, hz0, hz1, hz2⟩ := info_parts Tryd.info_byte
  have HI := Lib.hid hi0; have HZ0 := Lib.hid hz0; have HZ1 := Lib.hid hz1; have HZ2 := Lib.hid hz2
  clear hi0 hz0 hz1 hz2
  have HC := Lib.hid (check_any A n c ds w h)
  have H := Lib.hid h; have HTM := Lib.hid htm; have HT := Lib.hid hT
  have HDB := Lib.hid (fun (W : World) (hb : Below w.heap.size w W) => show RdDocs W W.heap.size A n c ds by
    obtain ⟨r1, r2, r3, r4⟩ := h
    refine ⟨r1, r2, r3, fun h0 => ?_⟩
    obtain ⟨b, off, e, hb1, hc⟩ := r4 h0
    exact ⟨b, off, e, Nat.lt_of_lt_of_le hb1 hb.size, fun i hi => ⟨(hb.cell (p := ⟨b, off + i * 3, none⟩) hb1).trans (hc i hi).1, (hb.cell (p := ⟨b, off + i * 3 + 1, none⟩) hb1).trans (hc i hi).2.1, (hb.cell (p := ⟨b, off + i * 3 + 2, none⟩) hb1).trans (hc i hi).2.2⟩⟩)
  clear h htm hT
  by_cases he : segErr ds = 0
  · obtain ⟨hl, hfm⟩ := segErr_ok he
    have hn : n ≤ 4096 := by rw [H.out.1]; exact hl
    have HFT := Lib.hid (show ∀ d ∈ ds, Fits d from fun d hd => fits_of (hfm d hd) (HTM.out d hd))
    rw [he] at HC
    have HE := Lib.hid he
    clear he hfm hl
    go_enter Tryd.func11, Tryd.ntmps11
    go_wp2_with fail
    refine HC.out.mono ?_
    rintro e w1 ⟨rfl, hb1⟩
    have HB1 := Lib.hid hb1
    have HPO := Lib.hid (postsOf_any A n c ds w1 (HDB.out w1 hb1) hn (fun d hd => (HFT.out d hd).2.1) (HT.out.below hb1))
    clear hb1
    go_wp2_with fail
    refine HPO.out.mono ?_
    rintro e w2 ⟨b, N, rfl, hN, D, hgr, hgp, hbb, hb2⟩
    have HB2 := Lib.hid (HB1.out.trans (hb2.mono HB1.out.size))
    have HKY := Lib.hid (keys_are (groups_map hgr) hgp)
    have hbd := body_any A n c b N ds D (M.posts ds) w2 (HDB.out w2 HB2.out) hn HFT.out hgr hN hgp (fun t => by
      obtain ⟨f1, f2, f3⟩ := posts_fit ds t
      have := H.out.1
      exact ⟨f1, by omega, fun k hk => by have := f3 k hk; omega⟩) (fun t ht => by
      obtain ⟨d, hd, hdt⟩ := posts_in (key_there (groups_map hgr) hgp ht)
      exact M.terms_short _ t hdt)
    rw [HKY.out] at hbd
    have HBD := Lib.hid hbd
    clear hbd hgr hgp hbb hb2 HPO
    go_wp2_with fail
    refine HBD.out.mono ?_
    rintro e w3 ⟨v3, rfl, hO3, hb3⟩
    obtain ⟨A3, c3, hv3, hr3⟩ := hO3.open_
    have HPR := Lib.hid (show M.segBody ds (M.keys ds) (M.posts ds) = M.segPre ds from rfl)
    rw [HPR.out] at hO3 hv3 hr3
    have HPB := Lib.hid (show M.segBytes ds = M.segPre ds ++ M.four (M.sum (M.segPre ds)) from rfl)
    have HPLN := Lib.hid (show (M.segPre ds).length ≤ 140737488000000 from segPre_len (by rw [← H.out.1]; exact hn) HFT.out)
    generalize M.segPre ds = pre at *
    obtain ⟨n3, hn3⟩ : ∃ n3, pre.length = n3 := ⟨_, rfl⟩
    rw [hn3] at hv3 hr3
    subst hv3
    have HN3 := Lib.hid hn3
    have HSM := Lib.hid (segSum_any A3 n3 c3 w3.heap.size pre w3 hr3)
    have HO3 := Lib.hid (show Own w3 w.heap.size 5 (.slice A3 n3 c3) pre from hO3.less HB2.out.size)
    have HB3 := Lib.hid (HB2.out.trans (hb3.mono HB2.out.size))
    have HPL := Lib.hid (show n3 ≤ 140737488000000 by rw [← hn3]; exact HPLN.out)
    clear hO3 hb3 hr3 hn3 HBD
    go_wp2_with fail
    refine HSM.out.mono ?_
    rintro e w4 ⟨v4, rfl, hO4, hb4⟩
    obtain ⟨A4, c4, hv4, hr4⟩ := hO4.open_
    rw [M.four_len] at hv4 hr4
    subst hv4
    have HR4 := Lib.hid hr4
    have HO4 := Lib.hid (HO3.out.below hb4)
    have HB4 := Lib.hid (HB3.out.trans (hb4.mono HB3.out.size))
    have hs4 := HB4.out.size
    clear hO4 hb4 hr4
    go_wp2_with (at_builtin; go_must (refine wpList_app _ rfl (.tmp 15) (.tmp 17) _ rfl w.heap.size w4.heap.size _ i0 Tryd.underlying24 HI.out HZ0.out HZ1.out HZ2.out (.slice A3 n3 c3) pre HO4.out rfl A4 4 c4 (M.four (M.sum pre)) HR4.out rfl (by have h1 := HN3.out; have h2 := HPL.out; rw [M.four_len]; omega) hs4 ?_))
    intro v5 w5 hO5 hg5 hat5
    have HO5 := Lib.hid (show Own w5 w.heap.size 5 v5 (M.segBytes ds) by rw [HPB.out]; exact hO5)
    have HB5 := Lib.hid (HB4.out.trans (below_own HO4.out hs4 hg5))
    clear hO5 hg5 hat5
    go_wp2
    go_ret2
    exact ⟨HB5.out, .inl ⟨HE.out, v5, rfl, HO5.out⟩⟩
  · have hq : (segErr ds == 0) = false := by simpa using he
    have HE := Lib.hid he
    obtain ⟨x, hx⟩ : ∃ x, segErr ds = x := ⟨_, rfl⟩
    have HX := Lib.hid hx
    rw [hx] at HC hq he
    clear hx
    go_enter Tryd.func11, Tryd.ntmps11
    go_wp2_with fail
    refine HC.out.mono ?_
    rintro e w1 ⟨rfl, hb1⟩
    have HB1 := Lib.hid hb1
    clear hb1
    go_wp2
    go_ret2
    exact ⟨HB1.out, .inr ⟨HE.out, by rw [HX.out]; rfl⟩⟩
end Go.Proofs.YthhgelaifapmmaaDoor

namespace Go.Proofs.YthhgelaifapmmaaDoor.M
/-- the entry at a place, the place behind it, the error's number -/
def rdDoc (l : List UInt8) (at_ : Int) : D × Nat × Nat :=
  if (rdText l at_ 32).2.2 ≠ 0 then (⟨[], 0, []⟩, 0, (rdText l at_ 32).2.2)
  else if (rdAt l (rdText l at_ 32).2.1).2.2 ≠ 0 then (⟨[], 0, []⟩, 0, (rdAt l (rdText l at_ 32).2.1).2.2)
  else if (rdText l (rdAt l (rdText l at_ 32).2.1).2.1 512).2.2 ≠ 0 then (⟨[], 0, []⟩, 0, (rdText l (rdAt l (rdText l at_ 32).2.1).2.1 512).2.2)
  else (⟨(rdText l at_ 32).1, zag (rdAt l (rdText l at_ 32).2.1).1, (rdText l (rdAt l (rdText l at_ 32).2.1).2.1 512).1⟩, (rdText l (rdAt l (rdText l at_ 32).2.1).2.1 512).2.1, 0)
end Go.Proofs.YthhgelaifapmmaaDoor.M
namespace Go.Proofs.YthhgelaifapmmaaDoor
open Go.RowKit Mem Go.ChangeShapes Go.Sort
set_option linter.unusedVariables false
set_option maxRecDepth 100000

def TellsD (r : M.D × Nat × Nat) (w : World) (e : Ending) (w' : World) : Prop := e = .returned (.tuple #[dval r.1, .int .i64 (r.2.1 : Int), .int .i64 (r.2.2 : Int)]) ∧ Below w.heap.size w w'

section
variable {P : Program}
theorem results_row3 {fn : Func} {p u v : Tmp} {ty : TypeId} (h : fn.results = #[.cell p ty, .tmp u, .tmp v]) (tmps : Array Value) (w : World) (g : Nat) (t : TypeId) (cs : Array Value) (fr : Nat × Nat) (d : TypeDesc)
    (hp : tmps.getD p undef = .pointer (some ⟨g, 0, none⟩)) (hg : w.heap[g]? = some (.cells cs t fr))
    (hu : P.underlying ty = some d) (hd : (match d with | .struct _ | .array _ _ => true | _ => false) = true) (hi : (P.info? ty).map (·.size) = some cs.size) :
    (results fn tmps).run P w = .ok (.tuple #[.agg cs, tmps.getD u undef, tmps.getD v undef]) w := by
  have hp' : tmps[p]?.getD undef = .pointer (some ⟨g, 0, none⟩) := by simpa using hp
  simp [results, h, hp', asAddr, run_loadVar_row w g t ty cs fr d hg hu hd hi]
end
theorem Tryd.docSize : (Tryd.prog.info? 52).map (·.size) = some 3 := by kernel_rfl
/-- an entry is written into its block -/
theorem DocIn.put {W : World} {g : Nat} {d : M.D} (h : DocIn W g d) (d2 : M.D) : DocIn (((W.setCell ⟨g, 0, none⟩ (.string ⟨d2.id.toArray⟩)).setCell ⟨g, 1, none⟩ (.int .i64 d2.time)).setCell ⟨g, 2, none⟩ (.string ⟨d2.text.toArray⟩)) g d2 :=
  (heapSet 2 _ (heapSet 1 _ (heapSet 0 _ h))).trans rfl
theorem below_put {w W : World} {g : Nat} (hb : Below w.heap.size w W) (hg : w.heap.size ≤ g) (u v x : Value) : Below w.heap.size w (((W.setCell ⟨g, 0, none⟩ u).setCell ⟨g, 1, none⟩ v).setCell ⟨g, 2, none⟩ x) :=
  ((hb.setCell (p := ⟨g, 0, none⟩) hg u).setCell (p := ⟨g, 1, none⟩) hg v).setCell (p := ⟨g, 2, none⟩) hg x

theorem rdAtTop (l : List UInt8) (k : Int) (hl : l.length ≤ 1073741824) : (M.rdAt l k).2.1 ≤ 2147483648 := by
  rcases M.rdAt_err l k with h | ⟨_, h⟩ | ⟨_, h⟩
  · have := (M.rdAt_le h).2.1; omega
  · rw [h]; simp
  · rw [h]; simp
theorem rdAtSmall (l : List UInt8) (k : Int) : (M.rdAt l k).1 < 18446744073709551616 := by
  rcases M.rdAt_err l k with h | ⟨_, h⟩ | ⟨_, h⟩
  · obtain ⟨_, _, _, _, h3, _⟩ := M.rdAt_ok h; exact h3
  · rw [h]; simp
  · rw [h]; simp
theorem rdTextTop (l : List UInt8) (k m : Int) (hl : l.length ≤ 1073741824) : (M.rdText l k m).2.1 ≤ 2147483648 := by
  unfold M.rdText
  split
  · simp
  · split
    · simp
    · split
      · simp
      · rename_i h0 h1 h2
        have := (M.rdAt_le (l := l) (k := k) (by omega)).2.1
        simp only []
        omega

set_option maxHeartbeats 4000000 in
theorem readDoc_any (A : Option Addr) (n c B : Nat) (l : List UInt8) (at_ : Int) (w : World) (h : Rd w B A n c l) (hB : B ≤ w.heap.size) (h1 : -9223372036854775808 ≤ at_) (h2 : at_ ≤ 9223372036854775807) (hn : n ≤ 1073741824) :
    Calls Tryd.prog 60 #[.slice A n c, .int .i64 at_] w (TellsD (M.rdDoc l at_) w) := by
  have HC1 := Lib.hid (fun (W : World) (hb : Below w.heap.size w W) => readText_any A n c B l at_ 32 W (h.below (hb.mono hB)) h1 h2 (by omega) (by omega))
  have HRN := Lib.hid (show l.length ≤ 1073741824 by have := h.len; omega)
  obtain ⟨ra, hra⟩ : ∃ ra, M.rdText l at_ 32 = ra := ⟨_, rfl⟩
  have ha2 : ra.2.1 ≤ 2147483648 := by rw [← hra]; exact rdTextTop _ _ _ HRN.out
  have HC2 := Lib.hid (fun (W : World) (hb : Below w.heap.size w W) => readUvarint_any A n c B l (ra.2.1 : Int) W (h.below (hb.mono hB)) (by omega) (by omega))
  obtain ⟨rb, hrb⟩ : ∃ rb, M.rdAt l (ra.2.1 : Int) = rb := ⟨_, rfl⟩
  have hb2 : rb.2.1 ≤ 2147483648 := by rw [← hrb]; exact rdAtTop _ _ HRN.out
  have hb1 : rb.1 < 18446744073709551616 := by rw [← hrb]; exact rdAtSmall _ _
  have HC3 := Lib.hid (fun (W : World) (hb : Below w.heap.size w W) => readText_any A n c B l (rb.2.1 : Int) 512 W (h.below (hb.mono hB)) (by omega) (by omega) (by omega) (by omega))
  obtain ⟨rc, hrc⟩ : ∃ rc, M.rdText l (rb.2.1 : Int) 512 = rc := ⟨_, rfl⟩
  have HE := Lib.hid (show M.rdDoc l at_ = if ra.2.2 ≠ 0 then (⟨[], 0, []⟩, 0, ra.2.2) else if rb.2.2 ≠ 0 then (⟨[], 0, []⟩, 0, rb.2.2) else if rc.2.2 ≠ 0 then (⟨[], 0, []⟩, 0, rc.2.2) else (⟨ra.1, M.zag rb.1, rc.1⟩, rc.2.1, 0) by unfold M.rdDoc; rw [hra, hrb, hrc])
  have HZ := Lib.hid (fun (W : World) => zag_any (rb.1 : Int) W (by omega) (by omega))
  rw [hra] at HC1
  rw [hrb] at HC2
  rw [hrc] at HC3
  have HB0 := Lib.hid ((Below.refl w.heap.size w).alloc (Nat.le_refl _) (.cells #[.string ⟨#[]⟩, .int .i64 0, .string ⟨#[]⟩] 52))
  clear h hra hrb hrc
  obtain ⟨a1, a2, a3⟩ := ra
  obtain ⟨b1, b2, b3⟩ := rb
  obtain ⟨c1, c2, c3⟩ := rc
  unfold TellsT at HC1 HC3
  unfold Tells at HC2
  simp only at HC1 HC2 HC3 HE HZ
  by_cases he1 : a3 = 0
  · subst he1
    by_cases he2 : b3 = 0
    · subst he2
      by_cases he3 : c3 = 0
      · subst he3
        have HX := Lib.hid (show M.rdDoc l at_ = (⟨a1, M.zag b1, c1⟩, c2, 0) by rw [HE.out]; simp)
        generalize M.zag (b1 : Int) = zz at *
        clear HE
        go_enter Tryd.func60, Tryd.ntmps60
        go_wp2_with fail
        refine (HC1.out _ HB0.out).mono ?_
        rintro e w1 ⟨rfl, hb1⟩
        have HD1 := Lib.hid ((DocIn.new w ⟨[], 0, []⟩).on hb1)
        have HB1 := Lib.hid (HB0.out.trans (hb1.mono HB0.out.size))
        clear hb1
        go_wp2_with fail
        refine (HC2.out _ HB1.out).mono ?_
        rintro e w2 ⟨rfl, rfl⟩
        go_wp2_with fail
        refine (HC3.out _ HB1.out).mono ?_
        rintro e w3 ⟨rfl, hb3⟩
        have HD3 := Lib.hid (HD1.out.on hb3)
        have HB3 := Lib.hid (HB1.out.trans (hb3.mono HB1.out.size))
        clear hb3
        go_wp2_with fail
        refine (HZ.out _).mono ?_
        rintro e w4 ⟨rfl, hw4⟩
        subst hw4
        obtain ⟨q0, q1, q2⟩ := HD3.out.cells
        have f0 : w3.frozen? ⟨w.heap.size, 0, none⟩ = false := freeAt 0 HD3.out
        have f1 : w3.frozen? ⟨w.heap.size, 1, none⟩ = false := freeAt 1 HD3.out
        have f2 : w3.frozen? ⟨w.heap.size, 2, none⟩ = false := freeAt 2 HD3.out
        go_wp2
        (try simp only [Exit.inBlock, Exit.then])
        refine bodyPost_ret (results_row3 rfl _ _ w.heap.size 52 #[.string ⟨(a1).toArray⟩, .int .i64 (zz), .string ⟨(c1).toArray⟩] (0, 0) _ rfl (HD3.out.put ⟨a1, zz, c1⟩) Tryd.underlying52 rfl Tryd.docSize) rfl ?_
        rw [HX.out]
        exact ⟨rfl, below_put HB3.out (Nat.le_refl _) _ _ _⟩
      · have hq : ((c3 : Int) == 0) = false := by simp; omega
        have HX := Lib.hid (show M.rdDoc l at_ = (⟨[], 0, []⟩, 0, c3) by rw [HE.out]; simp [he3])
        clear HE
        go_enter Tryd.func60, Tryd.ntmps60
        go_wp2_with fail
        refine (HC1.out _ HB0.out).mono ?_
        rintro e w1 ⟨rfl, hb1⟩
        have HD1 := Lib.hid ((DocIn.new w ⟨[], 0, []⟩).on hb1)
        have HB1 := Lib.hid (HB0.out.trans (hb1.mono HB0.out.size))
        clear hb1
        go_wp2_with fail
        refine (HC2.out _ HB1.out).mono ?_
        rintro e w2 ⟨rfl, rfl⟩
        go_wp2_with fail
        refine (HC3.out _ HB1.out).mono ?_
        rintro e w3 ⟨rfl, hb3⟩
        have HD3 := Lib.hid (HD1.out.on hb3)
        have HB3 := Lib.hid (HB1.out.trans (hb3.mono HB1.out.size))
        clear hb3
        obtain ⟨q0, q1, q2⟩ := HD3.out.cells
        have f0 : w3.frozen? ⟨w.heap.size, 0, none⟩ = false := freeAt 0 HD3.out
        have f1 : w3.frozen? ⟨w.heap.size, 1, none⟩ = false := freeAt 1 HD3.out
        have f2 : w3.frozen? ⟨w.heap.size, 2, none⟩ = false := freeAt 2 HD3.out
        go_wp2
        (try simp only [Exit.inBlock, Exit.then])
        refine bodyPost_ret (results_row3 rfl _ _ w.heap.size 52 #[.string ⟨([]).toArray⟩, .int .i64 (0), .string ⟨([]).toArray⟩] (0, 0) _ rfl (HD3.out.put ⟨[], 0, []⟩) Tryd.underlying52 rfl Tryd.docSize) rfl ?_
        rw [HX.out]
        exact ⟨rfl, below_put HB3.out (Nat.le_refl _) _ _ _⟩
    · have hq : ((b3 : Int) == 0) = false := by simp; omega
      have HX := Lib.hid (show M.rdDoc l at_ = (⟨[], 0, []⟩, 0, b3) by rw [HE.out]; simp [he2])
      clear HE
      go_enter Tryd.func60, Tryd.ntmps60
      go_wp2_with fail
      refine (HC1.out _ HB0.out).mono ?_
      rintro e w1 ⟨rfl, hb1⟩
      have HD1 := Lib.hid ((DocIn.new w ⟨[], 0, []⟩).on hb1)
      have HB1 := Lib.hid (HB0.out.trans (hb1.mono HB0.out.size))
      clear hb1
      go_wp2_with fail
      refine (HC2.out _ HB1.out).mono ?_
      rintro e w2 ⟨rfl, rfl⟩
      obtain ⟨q0, q1, q2⟩ := HD1.out.cells
      have f0 : w1.frozen? ⟨w.heap.size, 0, none⟩ = false := freeAt 0 HD1.out
      have f1 : w1.frozen? ⟨w.heap.size, 1, none⟩ = false := freeAt 1 HD1.out
      have f2 : w1.frozen? ⟨w.heap.size, 2, none⟩ = false := freeAt 2 HD1.out
      go_wp2
      (try simp only [Exit.inBlock, Exit.then])
      refine bodyPost_ret (results_row3 rfl _ _ w.heap.size 52 #[.string ⟨([]).toArray⟩, .int .i64 (0), .string ⟨([]).toArray⟩] (0, 0) _ rfl (HD1.out.put ⟨[], 0, []⟩) Tryd.underlying52 rfl Tryd.docSize) rfl ?_
      rw [HX.out]
      exact ⟨rfl, below_put HB1.out (Nat.le_refl _) _ _ _⟩
  · have hq : ((a3 : Int) == 0) = false := by simp; omega
    have HX := Lib.hid (show M.rdDoc l at_ = (⟨[], 0, []⟩, 0, a3) by rw [HE.out]; simp [he1])
    clear HE
    go_enter Tryd.func60, Tryd.ntmps60
    go_wp2_with fail
    refine (HC1.out _ HB0.out).mono ?_
    rintro e w1 ⟨rfl, hb1⟩
    have HD1 := Lib.hid ((DocIn.new w ⟨[], 0, []⟩).on hb1)
    have HB1 := Lib.hid (HB0.out.trans (hb1.mono HB0.out.size))
    clear hb1
    obtain ⟨q0, q1, q2⟩ := HD1.out.cells
    have f0 : w1.frozen? ⟨w.heap.size, 0, none⟩ = false := freeAt 0 HD1.out
    have f1 : w1.frozen? ⟨w.heap.size, 1, none⟩ = false := freeAt 1 HD1.out
    have f2 : w1.frozen? ⟨w.heap.size, 2, none⟩ = false := freeAt 2 HD1.out
    go_wp2
    (try simp only [Exit.inBlock, Exit.then])
    refine bodyPost_ret (results_row3 rfl _ _ w.heap.size 52 #[.string ⟨([]).toArray⟩, .int .i64 (0), .string ⟨([]).toArray⟩] (0, 0) _ rfl (HD1.out.put ⟨[], 0, []⟩) Tryd.underlying52 rfl Tryd.docSize) rfl ?_
    rw [HX.out]
    exact ⟨rfl, below_put HB1.out (Nat.le_refl _) _ _ _⟩
end Go.Proofs.YthhgelaifapmmaaDoor

namespace Go.Proofs.YthhgelaifapmmaaDoor.M
/-- so many entries, from a place on -/
def rdDocsFrom (l : List UInt8) : Nat → Nat → Option (List D)
  | 0, _ => some []
  | k + 1, p => if (rdDoc l (p : Int)).2.2 ≠ 0 then none else (rdDocsFrom l k (rdDoc l (p : Int)).2.1).map ((rdDoc l (p : Int)).1 :: ·)
theorem rdDocsFrom_succ (l : List UInt8) (k p : Nat) : rdDocsFrom l (k + 1) p = if (rdDoc l (p : Int)).2.2 ≠ 0 then none else (rdDocsFrom l k (rdDoc l (p : Int)).2.1).map ((rdDoc l (p : Int)).1 :: ·) := rfl
def rdDocs (l : List UInt8) (at_ : Int) : Option (List D) :=
  if (rdAt l at_).2.2 ≠ 0 ∨ 4096 < (rdAt l at_).1 then none else rdDocsFrom l (rdAt l at_).1 (rdAt l at_).2.1
end Go.Proofs.YthhgelaifapmmaaDoor.M
namespace Go.Proofs.YthhgelaifapmmaaDoor
open Go.RowKit Mem Go.ChangeShapes Go.Sort
set_option linter.unusedVariables false
set_option maxRecDepth 100000

theorem Tryd.infoDoc : (Tryd.prog.info? 52).map (fun i => (i.zero, i.size, i.bytes)) = some (some (.agg #[.string ⟨#[]⟩, .int .i64 0, .string ⟨#[]⟩]), 3, 40) := by kernel_rfl
def dcell (x : M.D) : List Value := [.string ⟨x.id.toArray⟩, .int .i64 x.time, .string ⟨x.text.toArray⟩]
def dcells (ds : List M.D) : List Value := ds.flatMap dcell
theorem dcells_len (l : List M.D) : (dcells l).length = l.length * 3 := by
  induction l with
  | nil => rfl
  | cons a r ih => show (dcell a ++ dcells r).length = _; rw [List.length_append, ih]; simp [dcell]; omega
theorem dcells_app (l r : List M.D) : dcells (l ++ r) = dcells l ++ dcells r := by simp [dcells]
theorem dcells_at {l : List M.D} {i : Nat} (hi : i < l.length) : (dcells l)[i * 3]? = some (.string ⟨l[i].id.toArray⟩) ∧ (dcells l)[i * 3 + 1]? = some (.int .i64 l[i].time) ∧ (dcells l)[i * 3 + 2]? = some (.string ⟨l[i].text.toArray⟩) := by
  induction l generalizing i with
  | nil => simp at hi
  | cons a r ih =>
    have e : dcells (a :: r) = .string ⟨a.id.toArray⟩ :: .int .i64 a.time :: .string ⟨a.text.toArray⟩ :: dcells r := rfl
    rw [e]
    cases i with
    | zero => simp
    | succ j =>
      have := ih (i := j) (by simpa using hi)
      rw [show (j + 1) * 3 = j * 3 + 3 by omega]
      simpa using this

/-- the slice v holds the entries ds, in memory of the call's own -/
def DRow (w : World) (base : Nat) (v : Value) (ds : List M.D) : Prop := w.ownsRow base 52 3 v ds.length (dcells ds)
theorem DRow.below {w w' : World} {base : Nat} {v : Value} {ds : List M.D} (h : DRow w base v ds) (hb : Below w.heap.size w w') : DRow w' base v ds := by
  refine World.ownsRow.kept (row := none) h ⟨hb.os, hb.tape, hb.output, hb.size, fun k hk _ => hb.block k hk⟩ ?_
  cases hv : v.ownBlock <;> simp
theorem DRow.less {w : World} {base b' : Nat} {v : Value} {ds : List M.D} (h : DRow w base v ds) (hb : b' ≤ base) : DRow w b' v ds := by
  refine ⟨h.1, ?_⟩
  rcases h.2 with h2 | ⟨g, cap, cur, hv, hg, r⟩
  · exact .inl h2
  · exact .inr ⟨g, cap, cur, hv, by omega, r⟩
/-- what is owned can be read -/
theorem DRow.open_ {w : World} {base : Nat} {v : Value} {ds : List M.D} (h : DRow w base v ds) : ∃ A c, v = .slice A ds.length c ∧ RdDocs w w.heap.size A ds.length c ds := by
  have hx := h
  rcases h.2 with ⟨rfl, h0⟩ | ⟨g, cap, cur, rfl, hg, hh, hnc, hcm, _⟩
  · exact ⟨none, 0, by rw [h0], rfl, by omega, by omega, fun hp => absurd hp (by omega)⟩
  · refine ⟨some ⟨g, 0, none⟩, cap, rfl, rfl, hnc, by simpa only [maxLen] using hcm, fun hp => ⟨g, 0, rfl, (Array.getElem?_eq_some_iff.1 hh).1, fun i hi => ?_⟩⟩
    obtain ⟨a1, a2, a3⟩ := dcells_at hi
    rw [Nat.zero_add]
    refine ⟨?_, ?_, ?_⟩
    · rw [World.ownsRow.cellAt hx (i * 3) (by rw [← dcells_len]; exact (List.getElem?_eq_some_iff.1 a1).1), a1]
    · rw [World.ownsRow.cellAt hx (i * 3 + 1) (by rw [← dcells_len]; exact (List.getElem?_eq_some_iff.1 a2).1), a2]
    · rw [World.ownsRow.cellAt hx (i * 3 + 2) (by rw [← dcells_len]; exact (List.getElem?_eq_some_iff.1 a3).1), a3]

/-- nothing, or the entries -/
def TellsDs (r : Option (List M.D)) (w : World) (e : Ending) (w' : World) : Prop :=
  ∃ v, e = .returned (.tuple #[v, .bool r.isSome]) ∧ Below w.heap.size w w' ∧ (∀ ds, r = some ds → DRow w' w.heap.size v ds)

def DInv (w : World) (v : Value) (ds : List M.D) (wr : World) : Prop := DRow wr w.heap.size v ds ∧ Below w.heap.size w wr
theorem DInv.next {w wr w9 : World} {g cap m c : Nat} {A : Option Addr} {ds : List M.D} {o : Obj} {x : M.D} (h : DInv w (.slice A m c) ds wr) (hm : ds.length = m)
    (hrow : w9.ownsRow w.heap.size 52 3 (.slice (some ⟨g, 0, none⟩) (m + 1) cap) (m + 1) (dcells ds ++ dcell x)) (hg : (wr.alloc o).grownBy w9 (Value.ownBlock (.slice A m c))) :
    DInv w (.slice (some ⟨g, 0, none⟩) (m + 1) cap) (ds ++ [x]) w9 := by
  obtain ⟨h1, h2⟩ := h
  refine ⟨?_, (h2.alloc h2.size _).grown hg (by have := h2.size; simp; omega) (fun k' hk' => (World.ownsRow.lt h1 k' hk').1)⟩
  unfold DRow
  rw [List.length_append, hm, dcells_app]
  simpa [dcells] using hrow
theorem rdDocTop (l : List UInt8) (k : Int) (hl : l.length ≤ 1073741824) : (M.rdDoc l k).2.1 ≤ 2147483648 := by
  unfold M.rdDoc
  split
  · simp
  · split
    · simp
    · split
      · simp
      · exact rdTextTop _ _ _ hl

set_option maxHeartbeats 4000000 in
theorem readDocs_any (A : Option Addr) (n c : Nat) (l : List UInt8) (at_ : Int) (w : World) (h : Rd w w.heap.size A n c l) (h1 : -9223372036854775808 ≤ at_) (h2 : at_ ≤ 9223372036854775807) (hn : n ≤ 1073741824) :
    Calls Tryd.prog 41 #[.slice A n c, .int .i64 at_] w (TellsDs (M.rdDocs l at_) w) := by
  obtain ⟨i0, hi, hz0, hz1, hz2⟩ := info_of Tryd.infoDoc
  have HI := Lib.hid hi; have HZ0 := Lib.hid hz0; have HZ1 := Lib.hid hz1; have HZ2 := Lib.hid hz2
  clear hi hz0 hz1 hz2
  have HRN := Lib.hid (show l.length ≤ 1073741824 by have := h.len; omega)
  have HC := Lib.hid (readUvarint_any A n c w.heap.size l at_ w h h1 h2)
  have HD := Lib.hid (fun (W : World) (hb : Below w.heap.size w W) (p : Nat) (hp : p ≤ 2147483648) => readDoc_any A n c w.heap.size l (p : Int) W (h.below hb) hb.size (by omega) (by omega) hn)
  obtain ⟨ra, hra⟩ : ∃ ra, M.rdAt l at_ = ra := ⟨_, rfl⟩
  have ha2 : ra.2.1 ≤ 2147483648 := by rw [← hra]; exact rdAtTop _ _ HRN.out
  have hb1 : ra.1 < 18446744073709551616 := by rw [← hra]; exact rdAtSmall _ _
  have HE := Lib.hid (show M.rdDocs l at_ = if ra.2.2 ≠ 0 ∨ 4096 < ra.1 then none else M.rdDocsFrom l ra.1 ra.2.1 by unfold M.rdDocs; rw [hra])
  rw [hra] at HC
  clear h hra
  obtain ⟨a1, a2, a3⟩ := ra
  unfold Tells at HC
  simp only at HC HE ha2 hb1
  by_cases he1 : a3 = 0
  · subst he1
    by_cases he2 : 4096 < a1
    · have HX := Lib.hid (show M.rdDocs l at_ = none by rw [HE.out, if_pos (.inr he2)])
      go_enter Tryd.func41, Tryd.ntmps41
      go_wp2_with fail
      refine HC.out.mono ?_
      rintro e w1 ⟨rfl, rfl⟩
      go_wp2
      go_ret2
      rw [HX.out]
      exact ⟨_, rfl, Below.refl _ _, fun _ h => by cases h⟩
    · have HX := Lib.hid (show M.rdDocs l at_ = M.rdDocsFrom l a1 a2 by rw [HE.out, if_neg (by simp; omega)])
      have H0 := Lib.hid (show DInv w (.slice none 0 0) [] w from ⟨World.ownsRow_nil _ _ _ _, Below.refl _ _⟩)
      have HG0 := Lib.hid (show M.rdDocs l at_ = (M.rdDocsFrom l (a1 - 0) a2).map ([] ++ ·) by rw [HX.out]; simp)
      clear HE HX
      go_enter Tryd.func41, Tryd.ntmps41
      go_wp2_with fail
      refine HC.out.mono ?_
      rintro e w1 ⟨rfl, rfl⟩
      go_wp2
      go_loopw [1, 8, 24] (fun q o p wr => ∃ (i m c9 pl : Nat) (A9 : Option Addr) (ds : List M.D), p = .int .u64 (i : Int) ∧ o = .slice A9 m c9 ∧ q = .int .i64 (pl : Int) ∧ i ≤ a1 ∧ m = i ∧ pl ≤ 2147483648 ∧ Hid (ds.length = m) ∧ Hid (M.rdDocs l at_ = (M.rdDocsFrom l (a1 - i) pl).map (ds ++ ·)) ∧ Hid (DInv w (.slice A9 m c9) ds wr)) (fun _ _ p _ => a1 - (intOf p).toNat)
      case atStart => exact ⟨0, 0, 0, a2, none, [], rfl, rfl, rfl, Nat.zero_le _, rfl, ha2, Lib.hid rfl, HG0, H0⟩
      case round =>
        obtain ⟨i, m, c9, pl, A9, ds, rfl, rfl, rfl, hi, hmi, hpl, HM, HG, HV⟩ := hrel
        rename World => wr
        obtain ⟨hrow, hb⟩ := HV.out
        have HROW := Lib.hid hrow; have HB := Lib.hid hb
        have hbs : w.heap.size ≤ wr.heap.size := hb.size
        clear hrow hb
        subst hmi
        by_cases hlt : m < a1
        · have hil : (m : Int) < (a1 : Int) := by omega
          have hk : a1 - m = (a1 - (m + 1)) + 1 := by omega
          have HST := Lib.hid (show M.rdDocs l at_ = if (M.rdDoc l (pl : Int)).2.2 ≠ 0 then none else (M.rdDocsFrom l (a1 - (m + 1)) (M.rdDoc l (pl : Int)).2.1).map ((ds ++ [(M.rdDoc l (pl : Int)).1]) ++ ·) by
            rw [HG.out, hk, M.rdDocsFrom_succ]
            split
            · rfl
            · rw [Option.map_map]; congr 1; funext x; simp)
          clear hk
          have hbA := (Below.refl wr.heap.size wr).alloc (Nat.le_refl _) (.cells #[.string ⟨#[]⟩, .int .i64 0, .string ⟨#[]⟩] 52)
          have HBA := Lib.hid (HB.out.trans (hbA.mono HB.out.size))
          have HDA := Lib.hid (DocIn.new wr ⟨[], 0, []⟩)
          have HRA := Lib.hid (HROW.out.below hbA)
          have HDD := Lib.hid (HD.out _ HBA.out pl hpl)
          have HTP := Lib.hid (rdDocTop l (pl : Int) HRN.out)
          have HBW := Lib.hid hbA
          clear hbA
          generalize M.rdDoc l (pl : Int) = rd at *
          obtain ⟨d, d2, d3⟩ := rd
          obtain ⟨did, dtm, dtx⟩ := d
          unfold TellsD dval at HDD
          simp only at HDD HST HTP
          have htp := HTP.out
          by_cases he3 : d3 = 0
          · subst he3
            have HS2 := Lib.hid (show M.rdDocs l at_ = (M.rdDocsFrom l (a1 - (m + 1)) d2).map ((ds ++ [⟨did, dtm, dtx⟩]) ++ ·) by rw [HST.out, if_neg (by simp)])
            clear HST
            go_wp2_with fail
            refine HDD.out.mono ?_
            rintro e w2 ⟨rfl, hb2⟩
            have HB2 := Lib.hid (HBA.out.trans (hb2.mono HBA.out.size))
            have HD2 := Lib.hid (HDA.out.on hb2)
            have HP := Lib.hid (below_put (g := wr.heap.size) (HBW.out.trans (hb2.mono HBW.out.size)) (Nat.le_refl _) (.string ⟨did.toArray⟩) (.int .i64 dtm) (.string ⟨dtx.toArray⟩))
            have HV2 := Lib.hid (show DInv w (.slice A9 m c9) ds (((w2.setCell ⟨wr.heap.size, 0, none⟩ (.string ⟨did.toArray⟩)).setCell ⟨wr.heap.size, 1, none⟩ (.int .i64 dtm)).setCell ⟨wr.heap.size, 2, none⟩ (.string ⟨dtx.toArray⟩)) from ⟨HROW.out.below HP.out, HB.out.trans (HP.out.mono hbs)⟩)
            have HRM := Lib.hid (show World.ownsRow (((w2.setCell ⟨wr.heap.size, 0, none⟩ (.string ⟨did.toArray⟩)).setCell ⟨wr.heap.size, 1, none⟩ (.int .i64 dtm)).setCell ⟨wr.heap.size, 2, none⟩ (.string ⟨dtx.toArray⟩)) w.heap.size 52 3 (.slice A9 m c9) m (dcells ds) by have := HV2.out.1; unfold DRow at this; rwa [HM.out] at this)
            have hw2 : wr.heap.size ≤ w2.heap.size := by have := HP.out.size; simpa using this
            obtain ⟨z0, z1, z2⟩ := (HD2.out.put ⟨did, dtm, dtx⟩).cells
            clear hb2
            obtain ⟨q0, q1, q2⟩ := HD2.out.cells
            have f0 : w2.frozen? ⟨wr.heap.size, 0, none⟩ = false := freeAt 0 HD2.out
            have f1 : w2.frozen? ⟨wr.heap.size, 1, none⟩ = false := freeAt 1 HD2.out
            have f2 : w2.frozen? ⟨wr.heap.size, 2, none⟩ = false := freeAt 2 HD2.out
            simp only at z0 z1 z2
            go_wp2_with (at_builtin; go_must (refine wpList_append_lies _ rfl (.tmp 35) (.tmp 37) _ rfl w.heap.size 52 i0 _ 3 40 Tryd.underlying22 HI.out HZ0.out HZ1.out HZ2.out rfl (by omega) (.slice A9 m c9) m (dcells ds) rfl (HRM.out.alloc _) ⟨w2.heap.size, 0, none⟩ 1 1 [.string ⟨did.toArray⟩, .int .i64 dtm, .string ⟨dtx.toArray⟩] rfl rfl (World.news_of_block (cs := #[.string ⟨did.toArray⟩, .int .i64 dtm, .string ⟨dtx.toArray⟩]) (t := 52) (fr := (0, 0)) (by simpa using heap_alloc_new (((w2.setCell ⟨wr.heap.size, 0, none⟩ (.string ⟨did.toArray⟩)).setCell ⟨wr.heap.size, 1, none⟩ (.int .i64 dtm)).setCell ⟨wr.heap.size, 2, none⟩ (.string ⟨dtx.toArray⟩)) _)) (by simp [Value.oneCell']) (by omega) (by simp only [maxLen]; omega) (by omega) (by simp; omega) (w2.heap.size + 1) (by simp) ?_))
            intro g9 cap9 w9 hown9 hgrow9 hat9 hlt9
            have HV9 := Lib.hid (HV2.out.next (x := ⟨did, dtm, dtx⟩) HM.out hown9 hgrow9)
            have HM9 := Lib.hid (show (ds ++ [(⟨did, dtm, dtx⟩ : M.D)]).length = m + 1 by rw [List.length_append, HM.out]; rfl)
            clear hown9 hgrow9 hat9
            go_wp2
            go_roundw
            case rel => exact ⟨m + 1, m + 1, cap9, d2, _, _, by go_num, rfl, rfl, by omega, rfl, htp, HM9, HS2, HV9⟩
            case measure => simp [intOf]; omega
          · have hq : ((d3 : Int) == 0) = false := by simp; omega
            have HS2 := Lib.hid (show M.rdDocs l at_ = none by rw [HST.out, if_pos he3])
            clear HST
            go_wp2_with fail
            refine HDD.out.mono ?_
            rintro e w2 ⟨rfl, hb2⟩
            have HB2 := Lib.hid (HBA.out.trans (hb2.mono HBA.out.size))
            have HD2 := Lib.hid (HDA.out.on hb2)
            clear hb2
            obtain ⟨q0, q1, q2⟩ := HD2.out.cells
            have f0 : w2.frozen? ⟨wr.heap.size, 0, none⟩ = false := freeAt 0 HD2.out
            have f1 : w2.frozen? ⟨wr.heap.size, 1, none⟩ = false := freeAt 1 HD2.out
            have f2 : w2.frozen? ⟨wr.heap.size, 2, none⟩ = false := freeAt 2 HD2.out
            go_wp2
            go_ret2
            rw [HS2.out]
            exact ⟨_, rfl, below_put HB2.out hbs _ _ _, fun _ h => by cases h⟩
        · obtain rfl : m = a1 := by omega
          have HS2 := Lib.hid (show M.rdDocs l at_ = some ds by rw [HG.out, Nat.sub_self]; simp [M.rdDocsFrom])
          go_wp2
          go_ret2
          rw [HS2.out]
          exact ⟨_, rfl, HB.out, fun _ h => by injection h with h; subst h; exact HROW.out⟩
  · have hq : ((a3 : Int) == 0) = false := by simp; omega
    have HX := Lib.hid (show M.rdDocs l at_ = none by rw [HE.out, if_pos (.inl he1)])
    go_enter Tryd.func41, Tryd.ntmps41
    go_wp2_with fail
    refine HC.out.mono ?_
    rintro e w1 ⟨rfl, rfl⟩
    go_wp2
    go_ret2
    rw [HX.out]
    exact ⟨_, rfl, Below.refl _ _, fun _ h => by cases h⟩
end Go.Proofs.YthhgelaifapmmaaDoor

namespace Go.Proofs.YthhgelaifapmmaaDoor.M
/-- the error of Open, and the entries -/
def segOpen (l : List UInt8) : Nat × List D :=
  if l.length < 8 then (3, [])
  else if l.take 4 ≠ [83, 69, 71, 49] then (3, [])
  else if l.drop (l.length - 4) ≠ four (sum (l.take (l.length - 4))) then (5, [])
  else match rdDocs (l.take (l.length - 4)) 4 with
    | none => (3, [])
    | some ds => if Go.Proofs.YthhgelaifapmmaaDoor.segErr ds ≠ 0 then (3, []) else if l.take (l.length - 4) ≠ segPre ds then (3, []) else (0, ds)
theorem rdDoc_time (l : List UInt8) (k : Int) : -9223372036854775808 ≤ (rdDoc l k).1.time ∧ (rdDoc l k).1.time ≤ 9223372036854775807 := by
  unfold rdDoc
  split
  · simp
  · split
    · simp
    · split
      · simp
      · exact zag_range _ (by omega) (by have := Go.Proofs.YthhgelaifapmmaaDoor.rdAtSmall l ((rdText l k 32).2.1 : Int); omega)
theorem rdDocsFrom_time (l : List UInt8) : ∀ (k p : Nat) (ds : List D), rdDocsFrom l k p = some ds → ∀ d ∈ ds, -9223372036854775808 ≤ d.time ∧ d.time ≤ 9223372036854775807
  | 0, _, ds, h, d, hd => by
    injection h with h; subst h; cases hd
  | k + 1, p, ds, h, d, hd => by
    rw [rdDocsFrom_succ] at h
    split at h
    · cases h
    · obtain ⟨r, hr, rfl⟩ := Option.map_eq_some_iff.1 h
      rcases List.mem_cons.1 hd with rfl | hd
      · exact rdDoc_time l p
      · exact rdDocsFrom_time l k _ r hr d hd
theorem rdDocs_time {l : List UInt8} {k : Int} {ds : List D} (h : rdDocs l k = some ds) : ∀ d ∈ ds, -9223372036854775808 ≤ d.time ∧ d.time ≤ 9223372036854775807 := by
  unfold rdDocs at h
  split at h
  · cases h
  · exact rdDocsFrom_time _ _ _ _ h
end Go.Proofs.YthhgelaifapmmaaDoor.M
namespace Go.Proofs.YthhgelaifapmmaaDoor
open Go.RowKit Mem Go.ChangeShapes Go.Sort
set_option linter.unusedVariables false
set_option maxRecDepth 100000

theorem equal_any (A A' : Option Addr) (n c n' c' B B' : Nat) (l l' : List UInt8) (w : World) (h : Rd w B A n c l) (h' : Rd w B' A' n' c' l') :
    Calls Tryd.prog 40 #[.slice A n c, .slice A' n' c'] w (fun e w' => e = .returned (.bool (decide (l = l'))) ∧ w' = w) := by
  have k1 := run_str (P := Tryd.prog) w _ 24 9 5 Tryd.underlying24 Tryd.underlying5 Tryd.underlying9 A n c l h
  have k2 := run_str (P := Tryd.prog) w _ 24 9 5 Tryd.underlying24 Tryd.underlying5 Tryd.underlying9 A' n' c' l' h'
  clear h h'
  go_enter Tryd.func40, Tryd.ntmps40
  go_wp2
  go_ret
  refine ⟨?_, rfl⟩
  show Ending.returned (.bool (l == l')) = _
  by_cases e : l = l'
  · subst e; simp
  · rw [decide_eq_false e, beq_eq_false_iff_ne.2 e]

theorem RdDocs.on {w W : World} {A : Option Addr} {n c : Nat} {ds : List M.D} (h : RdDocs w w.heap.size A n c ds) (hb : Below w.heap.size w W) : RdDocs W W.heap.size A n c ds := by
  obtain ⟨r1, r2, r3, r4⟩ := h
  refine ⟨r1, r2, r3, fun h0 => ?_⟩
  obtain ⟨b, off, e, hb1, hc⟩ := r4 h0
  exact ⟨b, off, e, Nat.lt_of_lt_of_le hb1 hb.size, fun i hi => ⟨(hb.cell (p := ⟨b, off + i * 3, none⟩) hb1).trans (hc i hi).1, (hb.cell (p := ⟨b, off + i * 3 + 1, none⟩) hb1).trans (hc i hi).2.1, (hb.cell (p := ⟨b, off + i * 3 + 2, none⟩) hb1).trans (hc i hi).2.2⟩⟩
/-- a segment in memory -/
def SegAt (w : World) (base g : Nat) (ds : List M.D) : Prop :=
  ∃ A c b N, ∃ D : DataW Unit, w.heap[g]? = some (.cells #[.slice A ds.length c, .map (some b)] 79 (0, 0)) ∧ base ≤ g ∧ DRow w base (.slice A ds.length c) ds ∧ w.ownsGroups Tryd.prog 9 (b + 1) 3 .i64 b N D ∧ N ≤ 8388608 ∧ Grp D (M.posts ds) ∧ base ≤ b
def Opens (r : Nat × List M.D) (w : World) (e : Ending) (w' : World) : Prop :=
  ∃ v, e = .returned (.tuple #[v, .int .i64 (r.1 : Int)]) ∧ Below w.heap.size w w' ∧ (r.1 ≠ 0 → v = .pointer none) ∧ (r.1 = 0 → ∃ g, v = .pointer (some ⟨g, 0, none⟩) ∧ SegAt w' w.heap.size g r.2)
theorem Opens.bad {k : Nat} {w w' : World} (hk : k ≠ 0) (hb : Below w.heap.size w w') : Opens (k, []) w (.returned (.tuple #[.pointer none, .int .i64 (k : Int)])) w' := ⟨_, rfl, hb, fun _ => rfl, fun h => absurd h hk⟩

set_option maxHeartbeats 8000000 in
theorem open_any (A : Option Addr) (n c : Nat) (l : List UInt8) (w : World) (h : Rd w w.heap.size A n c l) (hn : n ≤ 1073741824) (hT : Tabs w) :
    Calls Tryd.prog 14 #[.slice A n c] w (Opens (M.segOpen l) w) := by
  have HL := Lib.hid h.len
  have hc := h.cap; have hcm := h.max
  have HBB := Lib.hid (Below.refl w.heap.size w)
  by_cases h8 : n < 8
  · have HX := Lib.hid (show M.segOpen l = (3, []) by unfold M.segOpen; rw [if_pos (by have := HL.out; omega)])
    clear h
    go_enter Tryd.func14, Tryd.ntmps14
    go_wp2
    go_ret2
    rw [HX.out]
    exact Opens.bad (by omega) (HBB.out)
  · obtain ⟨b, off, rfl, hb, hcell⟩ := h.2.2.2 (by omega)
    have H := Lib.hid h; have HT := Lib.hid hT
    have k4 := run_str (P := Tryd.prog) w _ 24 9 5 Tryd.underlying24 Tryd.underlying5 Tryd.underlying9 (some ⟨b, off, none⟩) 4 c (l.take 4) (h.upto (k := 4) (by omega))
    clear h hcell hT
    have hc4 : (4 : Int) ≤ (c : Int) := by omega
    by_cases hm : l.take 4 = [83, 69, 71, 49]
    · have HOP := Lib.hid (show M.segOpen l = if l.drop (l.length - 4) ≠ M.four (M.sum (l.take (l.length - 4))) then (5, []) else match M.rdDocs (l.take (l.length - 4)) 4 with | none => (3, []) | some ds => if segErr ds ≠ 0 then (3, []) else if l.take (l.length - 4) ≠ M.segPre ds then (3, []) else (0, ds) by unfold M.segOpen; rw [if_neg (by have := HL.out; omega), if_neg (by simpa using hm)])
      rw [hm] at k4
      obtain ⟨z, rfl⟩ : ∃ z, n = z + 4 := ⟨n - 4, by omega⟩
      have hz : l.length - 4 = z := by have := HL.out; omega
      rw [hz] at HOP
      have HPR := Lib.hid (H.out.upto (k := z) (by omega))
      have HSF := Lib.hid (show Rd w w.heap.size (some ⟨b, off + z, none⟩) 4 (c - z) (l.drop z) by
        have := H.out.from_ (k := z) (by omega)
        rw [if_neg (by omega), Nat.add_sub_cancel_left, Option.map_some, add_none] at this
        exact this)
      have HSM := Lib.hid (fun (W : World) (hb : Below w.heap.size w W) => segSum_any (some ⟨b, off, none⟩) z c w.heap.size (l.take z) W (HPR.out.below hb))
      have HS4 := Lib.hid (show (M.four (M.sum (l.take z))).length = 4 from rfl)
      have HEQ := Lib.hid (fun (W : World) (A1 : Option Addr) (c1 B1 : Nat) (l1 : List UInt8) (hb : Below w.heap.size w W) (h1 : Rd W B1 A1 4 c1 l1) => equal_any (some ⟨b, off + z, none⟩) A1 4 (c - z) 4 c1 w.heap.size B1 (l.drop z) l1 W (HSF.out.below hb) h1)
      have hwz : IntKind.i64.wrap (((z + 4 : Nat) : Int) - 4) = (z : Int) := by rw [show ((z + 4 : Nat) : Int) - 4 = (z : Int) by omega]; exact IntWalk.i64_in _ (by omega)
      have b1 : (z : Int) ≤ (c : Int) := by omega
      have b2 : (z : Int) ≤ (z : Int) + 4 := by omega
      have b3 : ¬ c = z := by omega
      have b4 : (0 : Int) ≤ (z : Int) := by omega
      have HBD := Lib.hid (show Below w.heap.size w w.drew from ⟨HBB.out.os, HBB.out.tape, HBB.out.output, HBB.out.size, HBB.out.block⟩)
      have HB0 := HBB
      by_cases hs : l.drop z = M.four (M.sum (l.take z))
      · have HO2 := Lib.hid (show M.segOpen l = match M.rdDocs (l.take z) 4 with | none => (3, []) | some ds => if segErr ds ≠ 0 then (3, []) else if l.take z ≠ M.segPre ds then (3, []) else (0, ds) by rw [HOP.out, if_neg (by simpa using hs)])
        cases hrd : M.rdDocs (l.take z) 4 with
        | none =>
          have HX := Lib.hid (show M.segOpen l = (3, []) by rw [HO2.out, hrd])
          go_enter Tryd.func14, Tryd.ntmps14
          go_wp2_with fail
          go_region_held3 (fun W => Below w.heap.size w W)
            (first | exact hHeld | exact HBD.out | exact hbw | exact HB0.out | fail)
            (first
              | (go_at_call 31; refine (HSM.out _ HBD.out).mono ?_; rintro e w1 ⟨v1, rfl, hO1, hb1⟩; obtain ⟨A1, c1, hv1, hr1⟩ := hO1.open_; rw [HS4.out] at hv1 hr1; subst hv1; have hbw := HBD.out.trans (hb1.mono HBD.out.size))
              | (go_at_call 40; refine (HEQ.out _ _ _ _ _ hbw hr1).mono ?_; rintro e w2 ⟨rfl, rfl⟩)
              | fail)
          have HB1 := Lib.hid hbw
          have HRD := Lib.hid (readDocs_any (some ⟨b, off, none⟩) z c (l.take z) 4 w2 ((HPR.out.below hbw).more hbw.size) (by omega) (by omega) (by omega))
          clear hbw hb1 hr1 hO1
          rw [hrd] at HRD
          go_wp2_with fail
          refine HRD.out.mono ?_
          rintro e w3 ⟨v3, rfl, hb3, hds⟩
          have HB3 := Lib.hid (HB1.out.trans (hb3.mono HB1.out.size))
          clear hb3
          go_wp2
          go_ret2
          rw [HX.out]
          exact Opens.bad (by omega) HB3.out
        | some ds =>
          rw [hrd] at HO2
          have HTM := Lib.hid (M.rdDocs_time hrd)
          by_cases hse : segErr ds = 0
          · obtain ⟨hl, hfm⟩ := segErr_ok hse
            have HFT := Lib.hid (show ∀ d ∈ ds, Fits d from fun d hd => fits_of (hfm d hd) (HTM.out d hd))
            have HRDQ := Lib.hid hrd
            clear hrd hfm
            have HO3 := Lib.hid (show M.segOpen l = if l.take z ≠ M.segPre ds then (3, []) else (0, ds) by rw [HO2.out]; simp only; rw [if_neg (by simpa using hse)])
            have HSE := Lib.hid hse
            clear hse
            by_cases hpe : l.take z = M.segPre ds
            · have HX := Lib.hid (show M.segOpen l = (0, ds) by rw [HO3.out, if_neg (by simpa using hpe)])
              clear HO3 HO2
              go_enter Tryd.func14, Tryd.ntmps14
              go_wp2_with fail
              go_region_held3 (fun W => Below w.heap.size w W)
                (first | exact hHeld | exact HBD.out | exact hbw | exact HB0.out | fail)
                (first
                  | (go_at_call 31; refine (HSM.out _ HBD.out).mono ?_; rintro e w1 ⟨v1, rfl, hO1, hb1⟩; obtain ⟨A1, c1, hv1, hr1⟩ := hO1.open_; rw [HS4.out] at hv1 hr1; subst hv1; have hbw := HBD.out.trans (hb1.mono HBD.out.size))
                  | (go_at_call 40; refine (HEQ.out _ _ _ _ _ hbw hr1).mono ?_; rintro e w2 ⟨rfl, rfl⟩)
                  | fail)
              have HB1 := Lib.hid hbw
              have HRD := Lib.hid (readDocs_any (some ⟨b, off, none⟩) z c (l.take z) 4 w2 ((HPR.out.below hbw).more hbw.size) (by omega) (by omega) (by omega))
              clear hbw hb1 hr1 hO1
              rw [HRDQ.out] at HRD
              go_wp2_with fail
              refine HRD.out.mono ?_
              rintro e w3 ⟨v3, rfl, hb3, hds⟩
              have HB3 := Lib.hid (HB1.out.trans (hb3.mono HB1.out.size))
              clear hb3
              have HDR := Lib.hid ((hds ds rfl).less HB1.out.size)
              clear hds
              obtain ⟨A3, c3, hv3, hr3⟩ := HDR.out.open_
              subst hv3
              have HR3 := Lib.hid hr3
              have HCK := Lib.hid (check_any A3 ds.length c3 ds w3 hr3)
              clear hr3
              rw [HSE.out] at HCK
              go_wp2_with fail
              refine HCK.out.mono ?_
              rintro e w4 ⟨rfl, hb4⟩
              have HB4 := Lib.hid (HB3.out.trans (hb4.mono HB3.out.size))
              have HDR4 := Lib.hid (HDR.out.below hb4)
              have HR4 := Lib.hid (HR3.out.on hb4)
              clear hb4
              have HPO := Lib.hid (postsOf_any A3 ds.length c3 ds w4 HR4.out hl (fun d hd => (HFT.out d hd).2.1) (HT.out.below HB4.out))
              go_wp2_with fail
              refine HPO.out.mono ?_
              rintro e w5 ⟨mb, N, rfl, hN, D, hgr, hgp, hbb, hb5⟩
              have HB5 := Lib.hid (HB4.out.trans (hb5.mono HB4.out.size))
              have HR5 := Lib.hid (HR4.out.on hb5)
              have HDR5 := Lib.hid (HDR4.out.below hb5)
              have HKY := Lib.hid (keys_are (groups_map hgr) hgp)
              have HG := Lib.hid hgr; have HGP := Lib.hid hgp
              have HBB5 := Lib.hid (show w.heap.size ≤ mb from Nat.le_trans HB4.out.size hbb)
              have HBY := Lib.hid (fun (W : World) (hb : Below w5.heap.size w5 W) => show Calls Tryd.prog 29 #[.slice A3 ds.length c3, .map (some mb)] W (Gives W (M.segPre ds)) by
                have hbd := body_any A3 ds.length c3 mb N ds D (M.posts ds) W (HR5.out.on hb) hl HFT.out (groups_below HG.out hb) hN HGP.out (fun t => by
                  obtain ⟨f1, f2, f3⟩ := posts_fit ds t
                  exact ⟨f1, by omega, fun k hk => by have := f3 k hk; omega⟩) (fun t ht => by
                  obtain ⟨d, hd, hdt⟩ := posts_in (key_there (groups_map HG.out) HGP.out ht)
                  exact M.terms_short _ t hdt)
                rw [HKY.out] at hbd
                exact hbd)
              have HBD5 := Lib.hid (show Below w5.heap.size w5 w5.drew from ⟨rfl, rfl, rfl, Nat.le_refl _, fun _ _ => rfl⟩)
              have HB50 := Lib.hid (Below.refl w5.heap.size w5)
              have HE5 := Lib.hid (fun (W : World) (A1 : Option Addr) (n1 c1 B1 : Nat) (l1 : List UInt8) (hb : Below w5.heap.size w5 W) (h1 : Rd W B1 A1 n1 c1 l1) => equal_any (some ⟨b, off, none⟩) A1 z c n1 c1 w.heap.size B1 (l.take z) l1 W (HPR.out.below (HB5.out.trans (hb.mono HB5.out.size))) h1)
              clear hgr hgp hbb hb5 HPO
              go_wp2_with fail
              go_region_held3 (fun W => Below w5.heap.size w5 W)
                (first | exact hHeld | exact HBD5.out | exact hbw6 | exact HB50.out | fail)
                (first
                  | (go_at_call 29; refine (HBY.out _ HBD5.out).mono ?_; rintro e w6 ⟨v6, rfl, hO6, hb6⟩; obtain ⟨A6, c6, hv6, hr6⟩ := hO6.open_; subst hv6; have hbw6 := HBD5.out.trans (hb6.mono HBD5.out.size))
                  | (go_at_call 40; refine (HE5.out _ _ _ _ _ _ hbw6 hr6).mono ?_; rintro e w7 ⟨rfl, rfl⟩)
                  | fail)
              have HB7 := Lib.hid (HB5.out.trans (hbw6.mono HB5.out.size))
              have HG7 := Lib.hid (groups_below HG.out hbw6)
              have HDR7 := Lib.hid (HDR5.out.below hbw6)
              clear hbw6 hb6 hr6 hO6
              go_wp2
              go_ret2
              rw [HX.out]
              exact ⟨_, rfl, HB7.out.alloc HB7.out.size _, fun h => absurd rfl h, fun _ => ⟨_, rfl, A3, c3, mb, N, D, heap_alloc_new _ _, HB7.out.size, HDR7.out.below ((Below.refl _ _).alloc (Nat.le_refl _) _), groups_below HG7.out ((Below.refl _ _).alloc (Nat.le_refl _) _), hN, HGP.out, HBB5.out⟩⟩
            · have HX := Lib.hid (show M.segOpen l = (3, []) by rw [HO3.out, if_pos hpe])
              clear HO3 HO2
              go_enter Tryd.func14, Tryd.ntmps14
              go_wp2_with fail
              go_region_held3 (fun W => Below w.heap.size w W)
                (first | exact hHeld | exact HBD.out | exact hbw | exact HB0.out | fail)
                (first
                  | (go_at_call 31; refine (HSM.out _ HBD.out).mono ?_; rintro e w1 ⟨v1, rfl, hO1, hb1⟩; obtain ⟨A1, c1, hv1, hr1⟩ := hO1.open_; rw [HS4.out] at hv1 hr1; subst hv1; have hbw := HBD.out.trans (hb1.mono HBD.out.size))
                  | (go_at_call 40; refine (HEQ.out _ _ _ _ _ hbw hr1).mono ?_; rintro e w2 ⟨rfl, rfl⟩)
                  | fail)
              have HB1 := Lib.hid hbw
              have HRD := Lib.hid (readDocs_any (some ⟨b, off, none⟩) z c (l.take z) 4 w2 ((HPR.out.below hbw).more hbw.size) (by omega) (by omega) (by omega))
              clear hbw hb1 hr1 hO1
              rw [HRDQ.out] at HRD
              go_wp2_with fail
              refine HRD.out.mono ?_
              rintro e w3 ⟨v3, rfl, hb3, hds⟩
              have HB3 := Lib.hid (HB1.out.trans (hb3.mono HB1.out.size))
              clear hb3
              have HDR := Lib.hid ((hds ds rfl).less HB1.out.size)
              clear hds
              obtain ⟨A3, c3, hv3, hr3⟩ := HDR.out.open_
              subst hv3
              have HR3 := Lib.hid hr3
              have HCK := Lib.hid (check_any A3 ds.length c3 ds w3 hr3)
              clear hr3
              rw [HSE.out] at HCK
              go_wp2_with fail
              refine HCK.out.mono ?_
              rintro e w4 ⟨rfl, hb4⟩
              have HB4 := Lib.hid (HB3.out.trans (hb4.mono HB3.out.size))
              have HDR4 := Lib.hid (HDR.out.below hb4)
              have HR4 := Lib.hid (HR3.out.on hb4)
              clear hb4
              have HPO := Lib.hid (postsOf_any A3 ds.length c3 ds w4 HR4.out hl (fun d hd => (HFT.out d hd).2.1) (HT.out.below HB4.out))
              go_wp2_with fail
              refine HPO.out.mono ?_
              rintro e w5 ⟨mb, N, rfl, hN, D, hgr, hgp, hbb, hb5⟩
              have HB5 := Lib.hid (HB4.out.trans (hb5.mono HB4.out.size))
              have HR5 := Lib.hid (HR4.out.on hb5)
              have HDR5 := Lib.hid (HDR4.out.below hb5)
              have HKY := Lib.hid (keys_are (groups_map hgr) hgp)
              have HG := Lib.hid hgr; have HGP := Lib.hid hgp
              have HBB5 := Lib.hid (show w.heap.size ≤ mb from Nat.le_trans HB4.out.size hbb)
              have HBY := Lib.hid (fun (W : World) (hb : Below w5.heap.size w5 W) => show Calls Tryd.prog 29 #[.slice A3 ds.length c3, .map (some mb)] W (Gives W (M.segPre ds)) by
                have hbd := body_any A3 ds.length c3 mb N ds D (M.posts ds) W (HR5.out.on hb) hl HFT.out (groups_below HG.out hb) hN HGP.out (fun t => by
                  obtain ⟨f1, f2, f3⟩ := posts_fit ds t
                  exact ⟨f1, by omega, fun k hk => by have := f3 k hk; omega⟩) (fun t ht => by
                  obtain ⟨d, hd, hdt⟩ := posts_in (key_there (groups_map HG.out) HGP.out ht)
                  exact M.terms_short _ t hdt)
                rw [HKY.out] at hbd
                exact hbd)
              have HBD5 := Lib.hid (show Below w5.heap.size w5 w5.drew from ⟨rfl, rfl, rfl, Nat.le_refl _, fun _ _ => rfl⟩)
              have HB50 := Lib.hid (Below.refl w5.heap.size w5)
              have HE5 := Lib.hid (fun (W : World) (A1 : Option Addr) (n1 c1 B1 : Nat) (l1 : List UInt8) (hb : Below w5.heap.size w5 W) (h1 : Rd W B1 A1 n1 c1 l1) => equal_any (some ⟨b, off, none⟩) A1 z c n1 c1 w.heap.size B1 (l.take z) l1 W (HPR.out.below (HB5.out.trans (hb.mono HB5.out.size))) h1)
              clear hgr hgp hbb hb5 HPO
              go_wp2_with fail
              go_region_held3 (fun W => Below w5.heap.size w5 W)
                (first | exact hHeld | exact HBD5.out | exact hbw6 | exact HB50.out | fail)
                (first
                  | (go_at_call 29; refine (HBY.out _ HBD5.out).mono ?_; rintro e w6 ⟨v6, rfl, hO6, hb6⟩; obtain ⟨A6, c6, hv6, hr6⟩ := hO6.open_; subst hv6; have hbw6 := HBD5.out.trans (hb6.mono HBD5.out.size))
                  | (go_at_call 40; refine (HE5.out _ _ _ _ _ _ hbw6 hr6).mono ?_; rintro e w7 ⟨rfl, rfl⟩)
                  | fail)
              have HB7 := Lib.hid (HB5.out.trans (hbw6.mono HB5.out.size))
              have HG7 := Lib.hid (groups_below HG.out hbw6)
              have HDR7 := Lib.hid (HDR5.out.below hbw6)
              clear hbw6 hb6 hr6 hO6
              go_wp2
              go_ret2
              rw [HX.out]
              exact Opens.bad (by omega) HB7.out
          · have HX := Lib.hid (show M.segOpen l = (3, []) by rw [HO2.out]; simp only; rw [if_pos hse])
            have hq : (segErr ds == 0) = false := beq_eq_false_iff_ne.2 hse
            have HRDQ := Lib.hid hrd
            clear hrd
            go_enter Tryd.func14, Tryd.ntmps14
            go_wp2_with fail
            go_region_held3 (fun W => Below w.heap.size w W)
              (first | exact hHeld | exact HBD.out | exact hbw | exact HB0.out | fail)
              (first
                | (go_at_call 31; refine (HSM.out _ HBD.out).mono ?_; rintro e w1 ⟨v1, rfl, hO1, hb1⟩; obtain ⟨A1, c1, hv1, hr1⟩ := hO1.open_; rw [HS4.out] at hv1 hr1; subst hv1; have hbw := HBD.out.trans (hb1.mono HBD.out.size))
                | (go_at_call 40; refine (HEQ.out _ _ _ _ _ hbw hr1).mono ?_; rintro e w2 ⟨rfl, rfl⟩)
                | fail)
            have HB1 := Lib.hid hbw
            have HRD := Lib.hid (readDocs_any (some ⟨b, off, none⟩) z c (l.take z) 4 w2 ((HPR.out.below hbw).more hbw.size) (by omega) (by omega) (by omega))
            clear hbw hb1 hr1 hO1
            rw [HRDQ.out] at HRD
            go_wp2_with fail
            refine HRD.out.mono ?_
            rintro e w3 ⟨v3, rfl, hb3, hds⟩
            have HB3 := Lib.hid (HB1.out.trans (hb3.mono HB1.out.size))
            clear hb3
            have HDR := Lib.hid ((hds ds rfl).less HB1.out.size)
            clear hds
            obtain ⟨A3, c3, hv3, hr3⟩ := HDR.out.open_
            subst hv3
            have HR3 := Lib.hid hr3
            have HCK := Lib.hid (check_any A3 ds.length c3 ds w3 hr3)
            clear hr3
            generalize segErr ds = se at *
            go_wp2_with fail
            refine HCK.out.mono ?_
            rintro e w4 ⟨rfl, hb4⟩
            have HB4 := Lib.hid (HB3.out.trans (hb4.mono HB3.out.size))
            have HDR4 := Lib.hid (HDR.out.below hb4)
            clear hb4
            go_wp2
            go_ret2
            rw [HX.out]
            exact Opens.bad (by omega) HB4.out
      · have HX := Lib.hid (show M.segOpen l = (5, []) by rw [HOP.out, if_pos hs])
        go_enter Tryd.func14, Tryd.ntmps14
        go_wp2_with fail
        go_region_held3 (fun W => Below w.heap.size w W)
          (first | exact hHeld | exact HBD.out | exact hbw | exact HB0.out | fail)
          (first
            | (go_at_call 31; refine (HSM.out _ HBD.out).mono ?_; rintro e w1 ⟨v1, rfl, hO1, hb1⟩; obtain ⟨A1, c1, hv1, hr1⟩ := hO1.open_; rw [HS4.out] at hv1 hr1; subst hv1; have hbw := HBD.out.trans (hb1.mono HBD.out.size))
            | (go_at_call 40; refine (HEQ.out _ _ _ _ _ hbw hr1).mono ?_; rintro e w2 ⟨rfl, rfl⟩)
            | fail)
        go_wp2
        go_ret2
        rw [HX.out]
        exact Opens.bad (by omega) hbw
    · have HX := Lib.hid (show M.segOpen l = (3, []) by unfold M.segOpen; rw [if_neg (by have := HL.out; omega), if_pos hm])
      have hq : (l.take 4 == [83, 69, 71, 49]) = false := beq_eq_false_iff_ne.2 hm
      go_enter Tryd.func14, Tryd.ntmps14
      go_wp2
      go_ret2
      rw [HX.out]
      exact Opens.bad (by omega) (HBB.out)
end Go.Proofs.YthhgelaifapmmaaDoor

namespace Go.Proofs.YthhgelaifapmmaaDoor
open Go.RowKit Mem Go.ChangeShapes Go.Sort
set_option linter.unusedVariables false
set_option maxRecDepth 100000

theorem SegAt.on {w w' : World} {base g : Nat} {ds : List M.D} (h : SegAt w base g ds) (hb : Below w.heap.size w w') : SegAt w' base g ds := by
  obtain ⟨A, c, b, N, D, h1, h2, h3, h4, h5, h6, h7⟩ := h
  exact ⟨A, c, b, N, D, (hb.block g (heapLt h1)).trans h1, h2, h3.below hb, groups_below h4 hb, h5, h6, h7⟩

theorem segLen_any (g base : Nat) (ds : List M.D) (w : World) (h : SegAt w base g ds) : Calls Tryd.prog 24 #[.pointer (some ⟨g, 0, none⟩)] w (fun e w' => e = .returned (.int .i64 (ds.length : Int)) ∧ w' = w) := by
  obtain ⟨A, c, b, N, D, h1, -⟩ := h
  have c0 : w.cell? ⟨g, 0, none⟩ = some (.slice A ds.length c) := cellAt 0 h1
  clear h1
  go_enter Tryd.func24, Tryd.ntmps24
  go_wp2
  go_ret
  exact ⟨rfl, rfl⟩
theorem segLen_nil (w : World) : Calls Tryd.prog 24 #[.pointer none] w (fun e w' => e = .returned (.int .i64 0) ∧ w' = w) := by
  go_enter Tryd.func24, Tryd.ntmps24
  go_wp2
  go_ret
  exact ⟨rfl, rfl⟩

section
variable {P : Program}
theorem results_row2 {fn : Func} {p u : Tmp} {ty : TypeId} (h : fn.results = #[.cell p ty, .tmp u]) (tmps : Array Value) (w : World) (g : Nat) (t : TypeId) (cs : Array Value) (fr : Nat × Nat) (d : TypeDesc)
    (hp : tmps.getD p undef = .pointer (some ⟨g, 0, none⟩)) (hg : w.heap[g]? = some (.cells cs t fr))
    (hu : P.underlying ty = some d) (hd : (match d with | .struct _ | .array _ _ => true | _ => false) = true) (hi : (P.info? ty).map (·.size) = some cs.size) :
    (results fn tmps).run P w = .ok (.tuple #[.agg cs, tmps.getD u undef]) w := by
  have hp' : tmps[p]?.getD undef = .pointer (some ⟨g, 0, none⟩) := by simpa using hp
  simp [results, h, hp', asAddr, run_loadVar_row w g t ty cs fr d hg hu hd hi]
end
/-- an entry and an error's number -/
def TellsE (d : M.D) (k : Nat) (w : World) (e : Ending) (w' : World) : Prop := e = .returned (.tuple #[dval d, .int .i64 (k : Int)]) ∧ Below w.heap.size w w'

set_option maxHeartbeats 1000000 in
theorem segDoc_nil (i : Int) (w : World) : Calls Tryd.prog 23 #[.pointer none, .int .i64 i] w (TellsE ⟨[], 0, []⟩ 8 w) := by
  have HL := Lib.hid (fun W => segLen_nil W)
  have HD0 := Lib.hid (DocIn.new w ⟨[], 0, []⟩)
  have HB0 := Lib.hid ((Below.refl w.heap.size w).alloc (Nat.le_refl _) (.cells #[.string ⟨#[]⟩, .int .i64 0, .string ⟨#[]⟩] 52))
  by_cases hi : i < 0
  · go_enter Tryd.func23, Tryd.ntmps23
    go_wp2
    (try simp only [Exit.inBlock, Exit.then])
    refine bodyPost_ret (results_row2 rfl _ _ w.heap.size 52 #[.string ⟨([] : List UInt8).toArray⟩, .int .i64 0, .string ⟨([] : List UInt8).toArray⟩] (0, 0) _ rfl (DocIn.new w ⟨[], 0, []⟩) Tryd.underlying52 rfl Tryd.docSize) rfl ?_
    exact ⟨rfl, (Below.refl w.heap.size w).alloc (Nat.le_refl _) _⟩
  · go_enter Tryd.func23, Tryd.ntmps23
    go_wp2_with fail
    refine (HL.out _).mono ?_
    rintro e w2 ⟨rfl, hw2⟩
    subst hw2
    go_wp2
    (try simp only [Exit.inBlock, Exit.then])
    refine bodyPost_ret (results_row2 rfl _ _ w.heap.size 52 #[.string ⟨([] : List UInt8).toArray⟩, .int .i64 0, .string ⟨([] : List UInt8).toArray⟩] (0, 0) _ rfl (DocIn.new w ⟨[], 0, []⟩) Tryd.underlying52 rfl Tryd.docSize) rfl ?_
    exact ⟨rfl, (Below.refl w.heap.size w).alloc (Nat.le_refl _) _⟩

set_option maxHeartbeats 2000000 in
theorem segDoc_any (g base : Nat) (ds : List M.D) (i : Int) (w : World) (h : SegAt w base g ds) :
    Calls Tryd.prog 23 #[.pointer (some ⟨g, 0, none⟩), .int .i64 i] w (if h : 0 ≤ i ∧ i.toNat < ds.length then TellsE (ds[i.toNat]'h.2) 0 w else TellsE ⟨[], 0, []⟩ 8 w) := by
  have HL := Lib.hid (fun (W : World) (hb : Below w.heap.size w W) => segLen_any g base ds W (h.on hb))
  have HD0 := Lib.hid (DocIn.new w ⟨[], 0, []⟩)
  have HB0 := Lib.hid ((Below.refl w.heap.size w).alloc (Nat.le_refl _) (.cells #[.string ⟨#[]⟩, .int .i64 0, .string ⟨#[]⟩] 52))
  obtain ⟨A, c, b, N, D, h1, -, h3, -⟩ := h
  by_cases hi : i < 0
  · rw [dif_neg (by omega)]
    clear h1 h3
    go_enter Tryd.func23, Tryd.ntmps23
    go_wp2
    (try simp only [Exit.inBlock, Exit.then])
    refine bodyPost_ret (results_row2 rfl _ _ w.heap.size 52 #[.string ⟨([] : List UInt8).toArray⟩, .int .i64 0, .string ⟨([] : List UInt8).toArray⟩] (0, 0) _ rfl (DocIn.new w ⟨[], 0, []⟩) Tryd.underlying52 rfl Tryd.docSize) rfl ?_
    exact ⟨rfl, (Below.refl w.heap.size w).alloc (Nat.le_refl _) _⟩
  · obtain ⟨k, rfl⟩ : ∃ k : Nat, i = (k : Int) := ⟨i.toNat, by omega⟩
    by_cases hk : k < ds.length
    · rw [dif_pos ⟨by omega, by simpa using hk⟩]
      simp only [Int.toNat_natCast]
      obtain ⟨A', c', hv, hrd⟩ := h3.open_
      injection hv with e1 e2 e3
      subst e1 e3
      obtain ⟨db, off, rfl, hdb, hcell⟩ := hrd.2.2.2 (by omega)
      obtain ⟨q0, q1, q2⟩ := hcell k hk
      have hgl := heapLt h1
      have r0 : (w.alloc (.cells #[.string ⟨#[]⟩, .int .i64 0, .string ⟨#[]⟩] 52)).cell? ⟨g, 0, none⟩ = some (.slice (some ⟨db, off, none⟩) ds.length c) := (World.cell?_alloc_lt w _ _ hgl).trans (cellAt 0 h1)
      have q0' := (World.cell?_alloc_lt w (.cells #[.string ⟨#[]⟩, .int .i64 0, .string ⟨#[]⟩] 52) ⟨db, off + k * 3, none⟩ hdb).trans q0
      have q1' := (World.cell?_alloc_lt w (.cells #[.string ⟨#[]⟩, .int .i64 0, .string ⟨#[]⟩] 52) ⟨db, off + k * 3 + 1, none⟩ hdb).trans q1
      have q2' := (World.cell?_alloc_lt w (.cells #[.string ⟨#[]⟩, .int .i64 0, .string ⟨#[]⟩] 52) ⟨db, off + k * 3 + 2, none⟩ hdb).trans q2
      have hkl : (k : Int) < (ds.length : Int) := by omega
      clear hcell q0 q1 q2 h1 h3 hrd
      generalize ds[k] = d at *
      obtain ⟨did, dtm, dtx⟩ := d
      simp only at q0' q1' q2'
      generalize ds.length = m at *
      obtain ⟨z0, z1, z2⟩ := HD0.out.cells
      go_enter Tryd.func23, Tryd.ntmps23
      go_wp2_with fail
      refine (HL.out _ HB0.out).mono ?_
      rintro e w2 ⟨rfl, hw2⟩
      subst hw2
      go_wp2
      (try simp only [Exit.inBlock, Exit.then])
      refine bodyPost_ret (results_row2 rfl _ _ w.heap.size 52 #[.string ⟨did.toArray⟩, .int .i64 dtm, .string ⟨dtx.toArray⟩] (0, 0) _ rfl (DocIn.new w ⟨did, dtm, dtx⟩) Tryd.underlying52 rfl Tryd.docSize) rfl ?_
      exact ⟨rfl, (Below.refl w.heap.size w).alloc (Nat.le_refl _) _⟩
    · rw [dif_neg (by simp; omega)]
      have hkl : ¬ (k : Int) < (ds.length : Int) := by omega
      clear h1 h3
      generalize ds.length = m at *
      go_enter Tryd.func23, Tryd.ntmps23
      go_wp2_with fail
      refine (HL.out _ HB0.out).mono ?_
      rintro e w2 ⟨rfl, hw2⟩
      subst hw2
      go_wp2
      (try simp only [Exit.inBlock, Exit.then])
      refine bodyPost_ret (results_row2 rfl _ _ w.heap.size 52 #[.string ⟨([] : List UInt8).toArray⟩, .int .i64 0, .string ⟨([] : List UInt8).toArray⟩] (0, 0) _ rfl (DocIn.new w ⟨[], 0, []⟩) Tryd.underlying52 rfl Tryd.docSize) rfl ?_
      exact ⟨rfl, (Below.refl w.heap.size w).alloc (Nat.le_refl _) _⟩

theorem segTerms_any (g base : Nat) (ds : List M.D) (w : World) (h : SegAt w base g ds) : Calls Tryd.prog 21 #[.pointer (some ⟨g, 0, none⟩)] w (SaysN (M.keys ds) w) := by
  obtain ⟨A, c, b, N, D, h1, h2, h3, h4, h5, h6, h7⟩ := h
  have c1 : w.cell? ⟨g, 1, none⟩ = some (.map (some b)) := cellAt 1 h1
  have hk := keysInOrder_any (b + 1) b N D w h4 h5
  rw [keys_are (groups_map h4) h6] at hk
  have HK := Lib.hid hk
  clear hk h1 h2 h3 h4 h5 h6 h7
  go_enter Tryd.func21, Tryd.ntmps21
  go_wp2_with fail
  refine HK.out.mono ?_
  rintro e w2 ⟨A2, c2, rfl, hv⟩
  have HV := Lib.hid hv
  clear hv
  go_wp2
  go_ret
  exact ⟨A2, c2, rfl, HV.out⟩
end Go.Proofs.YthhgelaifapmmaaDoor

namespace Go.Proofs.YthhgelaifapmmaaDoor
open Go.RowKit Mem Go.ChangeShapes Go.Sort
set_option linter.unusedVariables false
set_option maxRecDepth 100000

theorem own_fresh0 (w : World) (e : TypeId) : OwnV (w.alloc (.cells #[] e)) w.heap.size e (.slice (some ⟨w.heap.size, 0, none⟩) 0 0) [] :=
  ⟨rfl, .inr ⟨w.heap.size, 0, #[], rfl, Nat.le_refl _, heap_alloc_new w _, Nat.le_refl _, Nat.zero_le _, rfl, rfl⟩⟩

set_option maxHeartbeats 1000000 in
theorem cloneI_any (A : Option Addr) (n c B : Nat) (l : List Int) (w : World) (h : RdV w B A n c (ints l)) (hB : B ≤ w.heap.size) (hroom : l.length ≤ 1099511627776) :
    Calls Tryd.prog 49 #[.slice A n c] w (GivesI w l) := by
  obtain ⟨i0, hi, hz0, hz1, hz2⟩ := Tryd.info_int
  have HI := Lib.hid hi; have HZ0 := Lib.hid hz0; have HZ1 := Lib.hid hz1; have HZ2 := Lib.hid hz2
  clear hi hz0 hz1 hz2
  have hnil := fun (w : World) (a : Option Addr) (n c : Nat) => Lib.run_eql_slice_nil (P := Tryd.prog) w 42 3 a n c 0 0 Tryd.underlying42
  cases A with
  | none =>
    have h0 : n = 0 := by
      rcases Nat.eq_zero_or_pos n with h0 | h0
      · exact h0
      · obtain ⟨b, off, e, _⟩ := h.2.2.2 h0; cases e
    subst h0
    have hl : l = [] := List.eq_nil_of_length_eq_zero (by have := h.1; rw [ints_len] at this; omega)
    subst hl
    go_enter Tryd.func49, Tryd.ntmps49
    go_wp2
    go_ret
    exact ⟨_, rfl, OwnV.nil _ _ _, Below.refl _ _⟩
  | some ad =>
    have HA := Lib.hid (h.below (w' := w.alloc (.cells #[] 3)) ((Below.refl B w).alloc hB _))
    clear h
    go_enter Tryd.func49, Tryd.ntmps49
    go_wp2_with (at_builtin; go_must (refine wpList_appV (w.alloc _) rfl (.tmp 5) (.tmp 6) _ rfl w.heap.size B _ i0 (.int .i64 0) 8 Tryd.underlying42 HI.out HZ0.out HZ1.out HZ2.out rfl _ [] (own_fresh0 w _) rfl _ n c (ints l) HA.out rfl (ints_one _) (by rw [ints_len]; simp; omega) (by rw [ints_len]; simp; omega) (by simp) ?_))
    intro v' w1 hown hg hat
    have hb := OwnV.grown (own_fresh0 w 3) (by simp) hg
    have HO := Lib.hid hown; have HB := Lib.hid (((Below.refl w.heap.size w).alloc (Nat.le_refl _) _).trans hb)
    clear hown hg hat hb
    go_wp2
    go_ret
    exact ⟨_, rfl, HO.out, HB.out⟩

set_option maxHeartbeats 1000000 in
theorem segPosts_any (g base : Nat) (ds : List M.D) (t : List UInt8) (w : World) (h : SegAt w base g ds) (ht : t.length ≤ 1073741824) (hl : ds.length ≤ 1099511627776) :
    Calls Tryd.prog 22 #[.pointer (some ⟨g, 0, none⟩), .string ⟨t.toArray⟩] w (GivesI w (M.posts ds t)) := by
  obtain ⟨A, c, b, N, D, h1, h2, h3, h4, h5, h6, h7⟩ := h
  have c1 : w.cell? ⟨g, 1, none⟩ = some (.map (some b)) := cellAt 1 h1
  have HG := Lib.hid h4; have HGP := Lib.hid h6
  have HPL := Lib.hid (show (M.posts ds t).length ≤ 1099511627776 from Nat.le_trans (posts_fit ds t).2.1 hl)
  have HKEYt := Lib.hid (keyOf_text t (by omega))
  clear h1 h2 h3 h4 h6 h7
  go_enter Tryd.func22, Tryd.ntmps22
  go_wp2_with (at_lookup; go_must (refine wpList_lookup_groups _ rfl (.tmp 10) (.tmp 11) _ rfl 9 42 3 .i64 Tryd.keyed Tryd.underlying62 (Tryd.zeroInts _) (b + 1) b N D rfl HG.out (by simp only [maxLen]; omega) _ _ rfl HKEYt.out ?_))
  intro v zs hat hoi hzl hback
  have hzf := HGP.out.at_ hat hoi
  subst hzf
  have hov : OwnV w (b + 1) 3 v (ints (M.posts ds t)) := by
    have := hoi.1
    unfold OwnV
    rw [ints_len]
    exact this
  obtain ⟨Av, cv, hvv, -⟩ := hov.form
  subst hvv
  have HCL := Lib.hid (cloneI_any Av _ cv w.heap.size (M.posts ds t) w hov.rd (Nat.le_refl _) HPL.out)
  clear hat hoi hzl hback hov
  go_wp2_with fail
  refine HCL.out.mono ?_
  rintro e w2 ⟨v2, rfl, hO2, hb2⟩
  have HO := Lib.hid hO2; have HB := Lib.hid hb2
  clear hO2 hb2
  go_wp2
  go_ret
  exact ⟨_, rfl, HO.out, HB.out⟩
theorem segPosts_nil (t : ByteArray) (w : World) : Calls Tryd.prog 22 #[.pointer none, .string t] w (fun e w' => e = .returned (.slice none 0 0) ∧ w' = w) := by
  go_enter Tryd.func22, Tryd.ntmps22
  go_wp2
  go_ret
  exact ⟨rfl, rfl⟩
theorem segTerms_nil (w : World) : Calls Tryd.prog 21 #[.pointer none] w (fun e w' => e = .returned (.slice none 0 0) ∧ w' = w) := by
  go_enter Tryd.func21, Tryd.ntmps21
  go_wp2
  go_ret
  exact ⟨rfl, rfl⟩
end Go.Proofs.YthhgelaifapmmaaDoor

namespace Go.Proofs.YthhgelaifapmmaaDoor
open Go.RowKit Mem Go.ChangeShapes Go.Sort
set_option linter.unusedVariables false
set_option maxRecDepth 100000

set_option maxHeartbeats 2000000 in
theorem ref_forms_any (A : Option Addr) (n c : Nat) (ds : List M.D) (w : World) (h : RdDocs w w.heap.size A n c ds) : Calls Tryd.prog 12 #[.slice A n c] w (SaysB (ds.all fun d => M.formB d.id d.text) w) := by
  have H := Lib.hid h; have HN := Lib.hid h.1
  have hc := h.2.1; have hcm := h.2.2.1
  have HI0 := Lib.hid (show ∀ j (hj : j < ds.length), j < 0 → M.formB ds[j].id ds[j].text = true from fun j _ h => by omega)
  have HB0 := Lib.hid (Below.refl w.heap.size w)
  clear h
  go_enter Tryd.func12, Tryd.ntmps12
  go_wp2
  go_loopw [3] (fun p wr => ∃ i : Nat, p = .int .i64 i ∧ i ≤ n ∧ Hid (∀ j (hj : j < ds.length), j < i → M.formB ds[j].id ds[j].text = true) ∧ Hid (Below w.heap.size w wr)) (fun p _ => n - (intOf p).toNat)
  case atStart => exact ⟨0, rfl, Nat.zero_le _, HI0, HB0⟩
  case round =>
    obtain ⟨i, rfl, hi, HJ, HB⟩ := hrel
    rename World => wr
    by_cases hlt : i < n
    · have hix : i < ds.length := by have := HN.out; omega
      obtain ⟨db, off, rfl, hdb, hcell⟩ := H.out.2.2.2 (by omega)
      obtain ⟨q0, q1, q2⟩ := hcell i hix
      have q0' := (HB.out.cell (p := ⟨db, off + i * 3, none⟩) hdb).trans q0
      have q1' := (HB.out.cell (p := ⟨db, off + i * 3 + 1, none⟩) hdb).trans q1
      have q2' := (HB.out.cell (p := ⟨db, off + i * 3 + 2, none⟩) hdb).trans q2
      have hil : (i : Int) < (n : Int) := by omega
      have HFM := Lib.hid (fun W => ref_form_any ds[i] W)
      have HJ2 := Lib.hid (show M.formB ds[i].id ds[i].text = true → ∀ j (hj : j < ds.length), j < i + 1 → M.formB ds[j].id ds[j].text = true from fun ht j hj h => by
        by_cases e : j = i
        · subst e; exact ht
        · exact HJ.out j hj (by omega))
      have HNO := Lib.hid (show M.formB ds[i].id ds[i].text = false → (ds.all fun d => M.formB d.id d.text) = false from fun hf => by
        rw [List.all_eq_false]
        exact ⟨ds[i], List.getElem_mem hix, by rw [hf]; simp⟩)
      clear hcell q0 q1 q2
      generalize ds[i] = d at *
      obtain ⟨did, dtm, dtx⟩ := d
      unfold dval at HFM
      simp only at q0' q1' q2' HFM HJ2 HNO
      generalize M.formB did dtx = bo at *
      go_wp2_with fail
      refine (HFM.out _).mono ?_
      rintro e w2 ⟨rfl, hb2⟩
      have HB2 := Lib.hid (HB.out.trans (hb2.mono HB.out.size))
      clear hb2
      cases bo
      · have HN3 := Lib.hid (HNO.out rfl)
        clear HNO HJ2
        go_wp2
        go_ret
        exact ⟨by rw [HN3.out]; rfl, HB2.out⟩
      · have HJ3 := Lib.hid (HJ2.out rfl)
        clear HNO HJ2
        go_wp2
        go_roundw
        case rel => exact ⟨i + 1, by go_num, by omega, HJ3, HB2⟩
        case measure => simp [intOf]; omega
    · have HX := Lib.hid (show (ds.all fun d => M.formB d.id d.text) = true by
        rw [List.all_eq_true]
        intro d hd
        obtain ⟨j, hj, rfl⟩ := List.mem_iff_getElem.1 hd
        exact HJ.out j hj (by have := HN.out; omega))
      go_wp2
      go_ret
      exact ⟨by rw [HX.out]; rfl, HB.out⟩
end Go.Proofs.YthhgelaifapmmaaDoor

namespace Go.Proofs.YthhgelaifapmmaaDoor.M
theorem rdDoc_doc (a r : List UInt8) (d : D) (h : Go.Proofs.YthhgelaifapmmaaDoor.Fits d) : rdDoc (a ++ (docBytes d ++ r)) (a.length : Int) = (d, a.length + (docBytes d).length, 0) := by
  obtain ⟨h1, h2, h3, h4⟩ := h
  have hz := zig_range d.time h3 h4
  have e1 : rdText (a ++ (docBytes d ++ r)) (a.length : Int) 32 = (d.id, a.length + (text d.id).length, 0) := by
    have := rdText_text a d.id (uv (zig d.time).toNat ++ (text d.text ++ r)) 32 (by omega)
    rw [if_neg (by omega)] at this
    simpa [docBytes, List.append_assoc] using this
  have e2 : rdAt (a ++ (docBytes d ++ r)) ((a.length + (text d.id).length : Nat) : Int) = ((zig d.time).toNat, a.length + (text d.id).length + (uv (zig d.time).toNat).length, 0) := by
    have := rdAt_uv (a ++ text d.id) (text d.text ++ r) (zig d.time).toNat (by omega)
    simpa [docBytes, List.append_assoc] using this
  have e3 : rdText (a ++ (docBytes d ++ r)) ((a.length + (text d.id).length + (uv (zig d.time).toNat).length : Nat) : Int) 512 = (d.text, a.length + (text d.id).length + (uv (zig d.time).toNat).length + (text d.text).length, 0) := by
    have := rdText_text (a ++ text d.id ++ uv (zig d.time).toNat) d.text r 512 (by omega)
    rw [if_neg (by omega)] at this
    simpa [docBytes, List.append_assoc, Nat.add_assoc] using this
  unfold rdDoc
  rw [e1]
  simp only [ne_eq, not_true_eq_false, if_false]
  rw [e2]
  simp only [not_true_eq_false, if_false]
  rw [e3]
  simp only [not_true_eq_false, if_false]
  have hzz : zag (((zig d.time).toNat : Nat) : Int) = d.time := by rw [Int.toNat_of_nonneg hz.1]; exact zag_zig _
  rw [hzz]
  simp [docBytes, Nat.add_assoc]
theorem rdDocsFrom_docs : ∀ (ds : List D) (a r : List UInt8), (∀ d ∈ ds, Go.Proofs.YthhgelaifapmmaaDoor.Fits d) → rdDocsFrom (a ++ ((ds.map docBytes).flatten ++ r)) ds.length a.length = some ds
  | [], _, _, _ => rfl
  | d :: ds, a, r, h => by
    have e : a ++ (((d :: ds).map docBytes).flatten ++ r) = a ++ (docBytes d ++ ((ds.map docBytes).flatten ++ r)) := by simp
    have e' : a ++ (docBytes d ++ ((ds.map docBytes).flatten ++ r)) = (a ++ docBytes d) ++ ((ds.map docBytes).flatten ++ r) := by simp
    rw [List.length_cons, rdDocsFrom_succ, e, rdDoc_doc a _ d (h d List.mem_cons_self)]
    simp only [ne_eq, not_true_eq_false, if_false]
    have ih := rdDocsFrom_docs ds (a ++ docBytes d) r (fun x hx => h x (List.mem_cons_of_mem _ hx))
    rw [List.length_append] at ih
    rw [e', ih]
    rfl
theorem rdDocs_docs (ds : List D) (r : List UInt8) (hl : ds.length ≤ 4096) (h : ∀ d ∈ ds, Go.Proofs.YthhgelaifapmmaaDoor.Fits d) : rdDocs (segHead ds ++ ((ds.map docBytes).flatten ++ r)) 4 = some ds := by
  have e1 : rdAt (segHead ds ++ ((ds.map docBytes).flatten ++ r)) 4 = (ds.length, 4 + (uv ds.length).length, 0) := by
    have := rdAt_uv [83, 69, 71, 49] ((ds.map docBytes).flatten ++ r) ds.length (by omega)
    simpa [segHead] using this
  unfold rdDocs
  rw [e1]
  simp only [ne_eq, not_true_eq_false, false_or]
  rw [if_neg (by omega)]
  have := rdDocsFrom_docs ds (segHead ds) r h
  rwa [show (segHead ds).length = 4 + (uv ds.length).length by simp [segHead]; omega] at this
theorem segPre_form (ds : List D) : segPre ds = segHead ds ++ ((ds.map docBytes).flatten ++ (uv (keys ds).length ++ ((keys ds).map (termBytes (posts ds))).flatten)) := by
  unfold segPre segBody; simp only [List.append_assoc]
theorem segBytes_len (ds : List D) : (segBytes ds).length = (segPre ds).length + 4 := by
  unfold segBytes; rw [List.length_append]; rfl
theorem segPre_len (ds : List D) : 6 ≤ (segPre ds).length := by
  rw [segPre_form]
  have h1 := (uv_len ds.length).1
  have h2 := (uv_len (keys ds).length).1
  simp [segHead]; omega
/-- what Build makes is opened -/
theorem segOpen_bytes (ds : List D) (he : Go.Proofs.YthhgelaifapmmaaDoor.segErr ds = 0) (ht : ∀ d ∈ ds, -9223372036854775808 ≤ d.time ∧ d.time ≤ 9223372036854775807) : segOpen (segBytes ds) = (0, ds) := by
  obtain ⟨hl, hfm⟩ := Go.Proofs.YthhgelaifapmmaaDoor.segErr_ok he
  have hft : ∀ d ∈ ds, Go.Proofs.YthhgelaifapmmaaDoor.Fits d := fun d hd => Go.Proofs.YthhgelaifapmmaaDoor.fits_of (hfm d hd) (ht d hd)
  have hn := segBytes_len ds
  have hp := segPre_len ds
  have t1 : (segBytes ds).length - 4 = (segPre ds).length := by omega
  have t2 : (segBytes ds).take (segPre ds).length = segPre ds := by unfold segBytes; rw [List.take_left]
  have t3 : (segBytes ds).drop (segPre ds).length = four (sum (segPre ds)) := by unfold segBytes; rw [List.drop_left]
  have t4 : (segBytes ds).take 4 = [83, 69, 71, 49] := by unfold segBytes; rw [segPre_form]; simp [segHead]
  have t5 : rdDocs (segPre ds) 4 = some ds := by rw [segPre_form]; exact rdDocs_docs ds _ hl hft
  unfold segOpen
  rw [if_neg (by omega), t1, t2, t3, t4, t5, if_neg (by simp), if_neg (by simp)]
  simp only
  rw [if_neg (by simpa using he), if_neg (by simp)]
/-- what is opened, Build makes -/
theorem segOpen_made {l : List UInt8} {ds : List D} (h : segOpen l = (0, ds)) : Go.Proofs.YthhgelaifapmmaaDoor.segErr ds = 0 ∧ l = segBytes ds ∧ ∀ d ∈ ds, -9223372036854775808 ≤ d.time ∧ d.time ≤ 9223372036854775807 := by
  unfold segOpen at h
  split at h
  · injection h with h _; cases h
  · split at h
    · injection h with h _; cases h
    · split at h
      · injection h with h _; cases h
      · rename_i h1 h2 h3
        split at h
        · injection h with h _; cases h
        · rename_i x hx
          split at h
          · injection h with h _; cases h
          · split at h
            · injection h with h _; cases h
            · rename_i h4 h5
              injection h with _ h
              subst h
              refine ⟨by simpa using h4, ?_, rdDocs_time hx⟩
              have e1 : l.take (l.length - 4) = segPre x := by simpa using h5
              have e2 : l.drop (l.length - 4) = four (sum (l.take (l.length - 4))) := by simpa using h3
              unfold segBytes
              rw [← e1, ← e2, List.take_append_drop]
end Go.Proofs.YthhgelaifapmmaaDoor.M

namespace Go.Proofs.YthhgelaifapmmaaDoor
open Go.RowKit Mem Go.ChangeShapes Go.Sort
set_option linter.unusedVariables false
set_option maxRecDepth 100000

theorem keys_few {ds : List M.D} (hf : ∀ d ∈ ds, Fits d) : (M.keys ds).length ≤ 1024 * ds.length := by
  unfold M.keys
  refine Nat.le_trans (gather_len _) ?_
  induction ds with
  | nil => simp
  | cons x r ih =>
    have h1 := ih (fun y hy => hf y (by simp [hy]))
    have h2 := terms_len x.text
    have h3 := (hf x (by simp)).2.1
    rw [List.map_cons, List.flatten_cons, List.length_append, List.length_cons]
    omega
theorem segBytes_few {ds : List M.D} (hl : ds.length ≤ 60) (hf : ∀ d ∈ ds, Fits d) : (M.segBytes ds).length ≤ 1073741824 := by
  rw [M.segBytes_len]
  unfold M.segPre M.segBody M.segHead
  have h1 := flat_len M.docBytes 600 ds (fun d hd => by
    have e1 := text_len d.id; have e2 := text_len d.text; have e3 := (M.uv_len (M.zig d.time).toNat).2
    obtain ⟨f1, f2, _⟩ := hf d hd
    unfold M.docBytes
    rw [List.length_append, List.length_append]; omega)
  have h2 := flat_len (M.termBytes (M.posts ds)) 700 (M.keys ds) (fun t ht => by
    obtain ⟨d, hd, hdt⟩ := M.mem_posts.1 (M.mem_keys.1 ht)
    have e1 := text_len t; have e2 := M.terms_short _ t hdt; have e3 := segEnc_len (M.posts ds t); have e4 := (posts_fit ds t).2.1
    unfold M.termBytes
    rw [List.length_append]; omega)
  have h3 := keys_few hf
  have h4 := (M.uv_len ds.length).2; have h5 := (M.uv_len (M.keys ds).length).2
  have h6 : 700 * (M.keys ds).length ≤ 700 * 61440 := Nat.mul_le_mul_left _ (by omega)
  simp only [List.length_append, List.length_cons, List.length_nil]
  omega

def exSeg : M.D := ⟨[97], 1, [114, 101, 100]⟩
theorem exSeg_ok : segErr [exSeg] = 0 := by decide
theorem exSeg_terms : M.terms [114, 101, 100] = [[114, 101, 100]] := by decide +kernel
theorem exSeg_posts : M.posts [exSeg] [114, 101, 100] = [0] := by
  show ((List.range 1).filter fun j => decide ([114, 101, 100] ∈ M.terms (([exSeg] : List M.D)[j]?.getD (⟨[], 0, []⟩ : M.D)).text)).map Int.ofNat = [0]
  have : decide (([114, 101, 100] : List UInt8) ∈ M.terms (([exSeg] : List M.D)[0]?.getD (⟨[], 0, []⟩ : M.D)).text) = true := by
    show decide (([114, 101, 100] : List UInt8) ∈ M.terms [114, 101, 100]) = true
    rw [exSeg_terms]; decide
  rw [show List.range 1 = [0] from rfl, List.filter_cons, if_pos this]
  rfl
theorem exSeg_rd (w : World) : RdDocs (w.alloc (.cells #[.string ⟨#[97]⟩, .int .i64 1, .string ⟨#[114, 101, 100]⟩] 52)) (w.alloc (.cells #[.string ⟨#[97]⟩, .int .i64 1, .string ⟨#[114, 101, 100]⟩] 52)).heap.size (some ⟨w.heap.size, 0, none⟩) 1 1 [exSeg] := by
  refine ⟨rfl, Nat.le_refl _, by omega, fun _ => ⟨w.heap.size, 0, rfl, by simp, fun i hi => ?_⟩⟩
  obtain rfl : i = 0 := by simp at hi; omega
  exact (DocIn.new w exSeg).cells

set_option maxHeartbeats 2000000 in
theorem awake9_any (w : World) (hT : Tabs w) : Calls Tryd.prog 10 #[] w (SaysB true w) := by
  have htm : ∀ d ∈ [exSeg], -9223372036854775808 ≤ d.time ∧ d.time ≤ 9223372036854775807 := fun d hd => by
    obtain rfl : d = exSeg := by simpa using hd
    exact ⟨by decide, by decide⟩
  have hft : ∀ d ∈ [exSeg], Fits d := fun d hd => by
    obtain rfl : d = exSeg := by simpa using hd
    exact ⟨by decide, by decide, by decide, by decide⟩
  have HT := Lib.hid hT
  have hbA := (Below.refl w.heap.size w).alloc (Nat.le_refl _) (.cells #[.string ⟨#[97]⟩, .int .i64 1, .string ⟨#[114, 101, 100]⟩] 52)
  have HBA := Lib.hid hbA
  have HBU := Lib.hid (build_any _ 1 1 [exSeg] _ (exSeg_rd w) htm (hT.below hbA))
  have HFW := Lib.hid (segBytes_few (ds := [exSeg]) (by decide) hft)
  have HOB := Lib.hid (M.segOpen_bytes [exSeg] exSeg_ok htm)
  clear hT htm hft hbA
  go_enter Tryd.func10, Tryd.ntmps10
  go_wp2_with fail
  refine HBU.out.mono ?_
  rintro e w1 ⟨hb1, hcase⟩
  obtain ⟨v1, rfl, hO1⟩ := hcase.elim (fun h => h.2) (fun h => absurd exSeg_ok h.1)
  have HB1 := Lib.hid (HBA.out.trans (hb1.mono HBA.out.size))
  obtain ⟨A1, c1, hv1, hr1⟩ := hO1.open_
  subst hv1
  have HOP := Lib.hid (open_any A1 _ c1 (M.segBytes [exSeg]) w1 hr1 HFW.out (HT.out.below HB1.out))
  rw [HOB.out] at HOP
  clear hb1 hcase hO1 hr1
  generalize (M.segBytes [exSeg]).length = n1 at *
  go_wp2_with fail
  refine HOP.out.mono ?_
  rintro e w2 ⟨v2, rfl, hb2, -, hg⟩
  obtain ⟨g, rfl, hsg⟩ := hg rfl
  have HB2 := Lib.hid (HB1.out.trans (hb2.mono HB1.out.size))
  have HLN := Lib.hid (segLen_any g _ _ w2 hsg)
  have HPO := Lib.hid (segPosts_any g _ _ [114, 101, 100] w2 hsg (by decide) (by decide))
  rw [exSeg_posts] at HPO
  clear hb2 hg hsg
  go_wp2_with fail
  refine HLN.out.mono ?_
  rintro e w3 ⟨rfl, hw3⟩
  subst hw3
  go_wp2_with fail
  refine HPO.out.mono ?_
  rintro e w4 ⟨v4, rfl, hO4, hb4⟩
  obtain ⟨A4, c4, hv4, -⟩ := hO4.form
  subst hv4
  have HB4 := Lib.hid (HB2.out.trans (hb4.mono HB2.out.size))
  clear hO4 hb4
  go_wp2
  go_ret
  exact ⟨rfl, HB4.out⟩
end Go.Proofs.YthhgelaifapmmaaDoor

namespace Go.Proofs.YthhgelaifapmmaaDoor.M
theorem rdDocs_bytes (ds : List D) (r : List UInt8) (hl : ds.length ≤ 4096) (h : ∀ d ∈ ds, Go.Proofs.YthhgelaifapmmaaDoor.Fits d) : rdDocs (segBytes ds ++ r) 4 = some ds := by
  unfold segBytes
  rw [segPre_form]
  simp only [List.append_assoc]
  exact rdDocs_docs ds _ hl h
/-- cut short it is none -/
theorem segOpen_cut (ds : List D) (hl : ds.length ≤ 4096) (h : ∀ d ∈ ds, Go.Proofs.YthhgelaifapmmaaDoor.Fits d) {k : Nat} (hk : k < (segBytes ds).length) : (segOpen ((segBytes ds).take k)).1 ≠ 0 := by
  intro h0
  obtain ⟨h1, h2, h3⟩ := segOpen_made (l := (segBytes ds).take k) (ds := (segOpen ((segBytes ds).take k)).2) (Prod.ext h0 rfl)
  generalize (segOpen ((segBytes ds).take k)).2 = es at *
  obtain ⟨hl2, hfm⟩ := Go.Proofs.YthhgelaifapmmaaDoor.segErr_ok h1
  have e1 := rdDocs_bytes es ((segBytes ds).drop k) hl2 (fun d hd => Go.Proofs.YthhgelaifapmmaaDoor.fits_of (hfm d hd) (h3 d hd))
  rw [← h2, List.take_append_drop] at e1
  have e2 := rdDocs_bytes ds [] hl h
  rw [List.append_nil, e1] at e2
  injection e2 with e2
  subst e2
  have := congrArg List.length h2
  rw [List.length_take] at this
  omega
theorem segSum_set (l : List UInt8) (k : Nat) (hk : k < l.length) (b : UInt8) (hb : b ≠ l[k]) : sum (l.set k b) ≠ sum l := by
  intro h
  have e1 : l = l.take k ++ l[k] :: l.drop (k + 1) := by rw [List.getElem_cons_drop, List.take_append_drop]
  have e2 : l.set k b = l.take k ++ b :: l.drop (k + 1) := List.set_eq_take_append_cons_drop .. |>.trans (if_pos hk)
  rw [e2] at h
  have h2 : sum (l.take k ++ b :: l.drop (k + 1)) = sum (l.take k ++ l[k] :: l.drop (k + 1)) := h.trans (congrArg sum e1)
  exact hb (sum_turn _ _ _ _ h2)
theorem four_inj {a b : Nat} (ha : a < 4294967296) (hb : b < 4294967296) (h : four a = four b) : a = b := by
  have h1 := be4_four a ha []
  have h2 := be4_four b hb []
  rw [h] at h1
  exact h1.symm.trans h2
/-- with a byte of its mark turned -/
theorem segOpen_mark (ds : List D) {k : Nat} (hk : k < 4) (b : UInt8) (hb : ∀ x, (segBytes ds)[k]? = some x → b ≠ x) : segOpen ((segBytes ds).set k b) = (3, []) := by
  have hn := segBytes_len ds
  have hp := segPre_len ds
  have t4 : (segBytes ds).take 4 = [83, 69, 71, 49] := by unfold segBytes; rw [segPre_form]; simp [segHead]
  unfold segOpen
  rw [if_neg (by rw [List.length_set]; omega), if_pos]
  intro h
  have e1 : (((segBytes ds).set k b).take 4)[k]? = some b := by
    rw [List.getElem?_take, if_pos hk, List.getElem?_set_self (by omega)]
  have e2 : (segBytes ds)[k]? = ([83, 69, 71, 49] : List UInt8)[k]? := by rw [← t4, List.getElem?_take, if_pos hk]
  rw [h] at e1
  exact hb b (e2.trans e1) rfl
/-- with another byte turned -/
theorem segOpen_turned (ds : List D) {k : Nat} (hk : 4 ≤ k) (hlt : k < (segBytes ds).length) (b : UInt8) (hb : ∀ x, (segBytes ds)[k]? = some x → b ≠ x) : segOpen ((segBytes ds).set k b) = (5, []) := by
  have hn := segBytes_len ds
  have hp := segPre_len ds
  have t4 : (segBytes ds).take 4 = [83, 69, 71, 49] := by unfold segBytes; rw [segPre_form]; simp [segHead]
  unfold segOpen
  rw [if_neg (by rw [List.length_set]; omega), if_neg, if_pos]
  · rw [List.length_set, show (segBytes ds).length - 4 = (segPre ds).length by omega]
    by_cases hkp : k < (segPre ds).length
    · have e : (segBytes ds).set k b = (segPre ds).set k b ++ four (sum (segPre ds)) := by unfold segBytes; rw [List.set_append_left _ _ hkp]
      have l1 : ((segPre ds).set k b).length = (segPre ds).length := List.length_set
      rw [e, ← l1, List.drop_left, List.take_left]
      intro h
      have hx : b ≠ (segPre ds)[k] := hb _ (by unfold segBytes; rw [List.getElem?_append_left hkp, List.getElem?_eq_getElem hkp])
      exact segSum_set _ k hkp b hx (four_inj (sum_lt _) (sum_lt _) h).symm
    · have e : (segBytes ds).set k b = segPre ds ++ (four (sum (segPre ds))).set (k - (segPre ds).length) b := by unfold segBytes; rw [List.set_append_right _ _ (by omega)]
      rw [e, List.drop_left, List.take_left]
      intro h
      have h4 : k - (segPre ds).length < (four (sum (segPre ds))).length := by rw [four_len]; omega
      have e1 := List.getElem?_set_self (l := four (sum (segPre ds))) (i := k - (segPre ds).length) (a := b) h4
      rw [h] at e1
      exact hb b (by unfold segBytes; rw [List.getElem?_append_right (by omega)]; exact e1) rfl
  · have : ((segBytes ds).set k b).take 4 = (segBytes ds).take 4 := List.take_set_of_le hk
    rw [this, t4]; simp
end Go.Proofs.YthhgelaifapmmaaDoor.M

namespace Go.Proofs.YthhgelaifapmmaaDoor
open Go.RowKit Mem Go.ChangeShapes Go.Sort
set_option linter.unusedVariables false
set_option maxRecDepth 100000

theorem segXor (x t : Nat) (hx : x < 256) (ht : t < 256) : bits BinOp.xor IntKind.u8 (x : Int) (t : Int) = ((UInt8.ofNat (x ^^^ t)).toNat : Int) := by
  rw [u8_xor_nat _ _ hx ht, M.toNat_of (Nat.xor_lt_two_pow (n := 8) hx ht)]
theorem segXor_ne (x t : Nat) (hx : x < 256) (ht : t < 256) (h0 : t ≠ 0) : UInt8.ofNat (x ^^^ t) ≠ UInt8.ofNat x := by
  intro h
  have h1 := congrArg UInt8.toNat h
  rw [M.toNat_of (Nat.xor_lt_two_pow (n := 8) hx ht), M.toNat_of hx] at h1
  have h2 : x ^^^ t = x ^^^ 0 := by simpa using h1
  exact h0 (M.xor_cancel_left h2)

set_option maxHeartbeats 8000000 in
theorem segTurned_any (A : Option Addr) (n c : Nat) (ds : List M.D) (at_ turn : Nat) (w : World) (h : RdDocs w w.heap.size A n c ds) (htm : ∀ d ∈ ds, -9223372036854775808 ≤ d.time ∧ d.time ≤ 9223372036854775807) (hT : Tabs w) (ha : at_ < 65536) (ht : turn < 256) :
    Calls Tryd.prog 6 #[.slice A n c, .int .u16 (at_ : Int), .int .u8 (turn : Int)] w (SaysB true w) := by
  have H := Lib.hid h; have HN := Lib.hid h.1; have HTM := Lib.hid htm; have HT := Lib.hid hT
  have hc := h.2.1; have hcm := h.2.2.1
  have HAW := Lib.hid (fun (W : World) (hb : Below w.heap.size w W) => awake9_any W (HT.out.below hb))
  have HFO := Lib.hid (fun (W : World) (hb : Below w.heap.size w W) => ref_forms_any A n c ds W (H.out.on hb))
  have HB0 := Lib.hid (Below.refl w.heap.size w)
  clear h htm hT
  cases hfo : (ds.all fun d => M.formB d.id d.text) with
  | false =>
    rw [hfo] at HFO
    go_enter Tryd.func6, Tryd.ntmps6
    go_wp2_with fail
    refine (HAW.out _ HB0.out).mono ?_
    rintro e w1 ⟨rfl, hb1⟩
    have HB1 := Lib.hid hb1
    clear hb1
    go_wp2_with fail
    refine (HFO.out _ HB1.out).mono ?_
    rintro e w2 ⟨rfl, hb2⟩
    have HB2 := Lib.hid (HB1.out.trans (hb2.mono HB1.out.size))
    clear hb2
    go_wp2_with fail
    refine (HAW.out _ HB2.out).mono ?_
    rintro e w3 ⟨rfl, hb3⟩
    have HB3 := Lib.hid (HB2.out.trans (hb3.mono HB2.out.size))
    clear hb3
    go_wp2
    go_ret
    exact ⟨rfl, HB3.out⟩
  | true =>
    rw [hfo] at HFO
    by_cases hearly : 30 < n ∨ turn = 0
    · have hq : ¬ 30 < n → ((turn : Int) == 0) = true := fun h => by simp; omega
      by_cases h30 : 30 < n
      · clear hq hearly
        go_enter Tryd.func6, Tryd.ntmps6
        go_wp2_with fail
        refine (HAW.out _ HB0.out).mono ?_
        rintro e w1 ⟨rfl, hb1⟩
        have HB1 := Lib.hid hb1
        clear hb1
        go_wp2_with fail
        refine (HFO.out _ HB1.out).mono ?_
        rintro e w2 ⟨rfl, hb2⟩
        have HB2 := Lib.hid (HB1.out.trans (hb2.mono HB1.out.size))
        clear hb2
        go_wp2_with fail
        refine (HAW.out _ HB2.out).mono ?_
        rintro e w3 ⟨rfl, hb3⟩
        have HB3 := Lib.hid (HB2.out.trans (hb3.mono HB2.out.size))
        clear hb3
        go_wp2
        go_ret
        exact ⟨rfl, HB3.out⟩
      · have hq2 := hq h30
        clear hq hearly
        go_enter Tryd.func6, Tryd.ntmps6
        go_wp2_with fail
        refine (HAW.out _ HB0.out).mono ?_
        rintro e w1 ⟨rfl, hb1⟩
        have HB1 := Lib.hid hb1
        clear hb1
        go_wp2_with fail
        refine (HFO.out _ HB1.out).mono ?_
        rintro e w2 ⟨rfl, hb2⟩
        have HB2 := Lib.hid (HB1.out.trans (hb2.mono HB1.out.size))
        clear hb2
        go_wp2_with fail
        refine (HAW.out _ HB2.out).mono ?_
        rintro e w3 ⟨rfl, hb3⟩
        have HB3 := Lib.hid (HB2.out.trans (hb3.mono HB2.out.size))
        clear hb3
        go_wp2
        go_ret
        exact ⟨rfl, HB3.out⟩
    · have h30 : ¬ 30 < n := fun h => hearly (.inl h)
      have h00 : ¬ turn = 0 := fun h => hearly (.inr h)
      have hq : ((turn : Int) == 0) = false := by simp; omega
      have hse : segErr ds = 0 := by unfold segErr; rw [if_neg (by have := HN.out; omega), hfo]; rfl
      have HSE := Lib.hid hse
      have HFT := Lib.hid (show ∀ d ∈ ds, Fits d from fun d hd => fits_of ((segErr_ok hse).2 d hd) (HTM.out d hd))
      have HFW := Lib.hid (segBytes_few (ds := ds) (by have := HN.out; omega) HFT.out)
      have HCUT := Lib.hid (fun (k : Nat) (hk : k < (M.segBytes ds).length) => M.segOpen_cut ds (by have := HN.out; omega) HFT.out hk)
      have HLEN := Lib.hid (show 10 ≤ (M.segBytes ds).length by rw [M.segBytes_len]; have := M.segPre_len ds; omega)
      obtain ⟨i0, hi0, hz0, hz1, hz2⟩ := info_parts Tryd.info_byte
      have HI := Lib.hid hi0; have HZ0 := Lib.hid hz0; have HZ1 := Lib.hid hz1; have HZ2 := Lib.hid hz2
      clear hi0 hz0 hz1 hz2 hse hearly
      go_enter Tryd.func6, Tryd.ntmps6
      go_wp2_with fail
      refine (HAW.out _ HB0.out).mono ?_
      rintro e w1 ⟨rfl, hb1⟩
      have HB1 := Lib.hid hb1
      clear hb1
      go_wp2_with fail
      refine (HFO.out _ HB1.out).mono ?_
      rintro e w2 ⟨rfl, hb2⟩
      have HB2 := Lib.hid (HB1.out.trans (hb2.mono HB1.out.size))
      clear hb2
      have HBU := Lib.hid (build_any A n c ds w2 (H.out.on HB2.out) HTM.out (HT.out.below HB2.out))
      go_wp2_with fail
      refine HBU.out.mono ?_
      rintro e w3 ⟨hb3, hcase⟩
      obtain ⟨v3, rfl, hO3⟩ := hcase.elim (fun h => h.2) (fun h => absurd HSE.out h.1)
      have HB3 := Lib.hid (HB2.out.trans (hb3.mono HB2.out.size))
      obtain ⟨A3, c3, hv3, hr3⟩ := hO3.open_
      subst hv3
      have HR3 := Lib.hid hr3
      obtain ⟨p, hp⟩ : ∃ p, M.segBytes ds = p := ⟨_, rfl⟩
      have HP := Lib.hid hp
      have hc3 := hr3.cap; have hcm3 := hr3.max
      rw [hp] at HFW HCUT HLEN HR3 hc3
      clear hb3 hcase hO3 hr3
      simp only [hp]
      clear hp
      obtain ⟨m, hm⟩ : ∃ m, p.length = m := ⟨_, rfl⟩
      have HM := Lib.hid hm
      rw [hm] at HFW HCUT HLEN HR3 hc3 ⊢
      have hl10 := HLEN.out
      have hfw := HFW.out
      clear hm
      obtain ⟨k, hk⟩ : ∃ k, k = at_ % m := ⟨_, rfl⟩
      have hkm : k < m := by rw [hk]; exact Nat.mod_lt _ (by omega)
      have hkk : (at_ : Int).tmod (m : Int) = (k : Int) := by rw [hk, Int.tmod_eq_emod_of_nonneg (by omega)]; omega
      have hkk2 : (at_ : Int) % (m : Int) = (k : Int) := by rw [hk]; omega
      clear hk
      have HOC := Lib.hid (open_any A3 k c3 (p.take k) w3 (by have := HR3.out.upto (k := k) (by omega); exact this) (by omega) (HT.out.below HB3.out))
      have HNZ := Lib.hid (HCUT.out k hkm)
      go_wp2_with fail
      refine HOC.out.mono ?_
      rintro e w4 ⟨v4, rfl, hb4, hnil, -⟩
      obtain ⟨f, hf⟩ : ∃ f, (M.segOpen (p.take k)).1 = f := ⟨_, rfl⟩
      rw [hf] at HNZ hnil ⊢
      obtain rfl := hnil HNZ.out
      have hfq : ((f : Int) == 0) = false := by have := HNZ.out; simp; omega
      have hfn : ((f : Int) != 0) = true := by have := HNZ.out; rw [bne_iff_ne]; omega
      have hfn2 : ¬ f = 0 := HNZ.out
      have HB4 := Lib.hid (HB3.out.trans (hb4.mono HB3.out.size))
      have HR4 := Lib.hid (HR3.out.below hb4)
      clear hb4 hnil hf HOC HNZ HCUT HBU HAW HFO
      go_wp2_with (at_builtin; go_must (refine wpList_app w4 rfl (.tmp 56) (.tmp 57) _ rfl w4.heap.size w3.heap.size _ i0 Tryd.underlying24 HI.out HZ0.out HZ1.out HZ2.out _ [] (Own.nil _ _ _) rfl A3 m c3 p HR4.out rfl (by have := HM.out; simp; omega) (Nat.le_refl _) ?_))
      intro v5 w5 hO5 hg5 hat5
      have hb5 := below_own (Own.nil w4 w4.heap.size 5) (Nat.le_refl _) hg5
      have HB5 := Lib.hid (HB4.out.trans (hb5.mono HB4.out.size))
      obtain ⟨g, c5, rfl, hg1, hg2, hc5, hc5', hcell, hfz⟩ := hO5.form (by have := HM.out; omega)
      have hg0 : w.heap.size ≤ g := Nat.le_trans HB4.out.size hg1
      have hck := hcell k (by have := HM.out; omega)
      have hfk := hfz k
      obtain ⟨x, hx⟩ : ∃ x, x = (p[k]?.getD 0).toNat := ⟨_, rfl⟩
      have hx256 : x < 256 := by rw [hx]; exact UInt8.toNat_lt _
      rw [← hx] at hck
      have HF := Lib.hid (segXor x turn hx256 ht)
      obtain ⟨y, hy⟩ : ∃ y, UInt8.ofNat (x ^^^ turn) = y := ⟨_, rfl⟩
      have HYX := Lib.hid (show ∀ z, p[k]? = some z → y ≠ z from fun z hz e => by
        have h1 := segXor_ne x turn hx256 ht h00
        rw [hy, e] at h1
        rw [hz] at hx
        apply h1
        rw [hx]; simp)
      rw [hy] at HF
      have HO6 := Lib.hid (hO5.stored k y)
      have HB6 := Lib.hid (HB5.out.setCell (p := ⟨g, k, none⟩) hg0 (.int .u8 (y.toNat : Int)))
      obtain ⟨A6, c6, he6, hr6⟩ := HO6.out.open_
      rw [List.length_set, HM.out] at he6 hr6
      rw [HM.out] at hc5
      injection he6 with e1 e2 e3
      subst e1 e3
      have HOQ0 := Lib.hid (open_any _ m c5 (p.set k y) _ hr6 (by omega) (HT.out.below HB6.out))
      rw [HM.out]
      have hil : (k : Int) < (m : Int) := by omega
      clear hcell hfz hx hy hr6 hO5 hg5 hat5 hb5
      by_cases hk4 : k < 4
      · have hk4' : (k : Int) < 4 := by omega
        have HQ := Lib.hid (show M.segOpen (p.set k y) = (3, []) by rw [← HP.out] at HYX ⊢; exact M.segOpen_mark ds hk4 y HYX.out)
        rw [HQ.out] at HOQ0
        go_wp2_with fail
        rw [HF.out]
        refine HOQ0.out.mono ?_
        rintro e w7 ⟨v7, rfl, hb7, hn7, -⟩
        have HB7 := Lib.hid (HB6.out.trans (hb7.mono HB6.out.size))
        clear hb7 hn7
        go_wp2
        go_ret
        exact ⟨rfl, HB7.out⟩
      · have hk4' : ¬ (k : Int) < 4 := by omega
        have HQ := Lib.hid (show M.segOpen (p.set k y) = (5, []) by
          have hkl : k < p.length := by have := HM.out; omega
          rw [← HP.out] at HYX hkl ⊢
          exact M.segOpen_turned ds (by omega) hkl y HYX.out)
        rw [HQ.out] at HOQ0
        go_wp2_with fail
        rw [HF.out]
        refine HOQ0.out.mono ?_
        rintro e w7 ⟨v7, rfl, hb7, hn7, -⟩
        have HB7 := Lib.hid (HB6.out.trans (hb7.mono HB6.out.size))
        clear hb7 hn7
        go_wp2
        go_ret
        exact ⟨rfl, HB7.out⟩
end Go.Proofs.YthhgelaifapmmaaDoor
