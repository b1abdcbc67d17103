/-
  The law MergePages: lists that stay readable while a row is appended to; the walk up to the pages.
-/
import Derived.Test.YtpnhjcedhcgglaaMergeL
namespace Go.Proofs.Ytpnhjcedhcgglaa
open Go.RowKit Mem
set_option linter.unusedVariables false
set_option maxRecDepth 100000

theorem Try.infoList : (Try.prog.info? 24).map (fun i => (i.zero, i.size, i.bytes)) = some (some (.slice none 0 0), 1, 24) := by kernel_rfl
/-- a call of a Go function, as a step of a region that draws its order -/
theorem step_call {P : Program} {ops : Array Oper} {o : Oper} {a : Act} {w : World} {K : Act → World → Prop} {Q : Exit → Act → World → Prop} {E : Prop} (hgd : o.guard = none) (f : FuncId) (args : Array Value) (hrun : (execOp a.eval o).run P w = .ok (.enter f args) w)
    {X : Type} (val : X → Value) (S : X → World → Prop) (hc : Calls P f args w (fun e w' => ∃ x, e = .returned (val x) ∧ S x w')) (h : ∀ x w', S x w' → K (a.put o.dst (val x)) w') :
    if Region.wanted o (yielded ops a.tmps) = true then Oper.wp P o a w K Q else E := by
  have hw : Region.wanted o (yielded ops a.tmps) = true := by simp [Region.wanted, hgd]
  rw [if_pos hw]
  unfold Oper.wp
  rw [hrun, Oper.upon_enter]
  refine hc.mono fun e w'' hh => ?_
  obtain ⟨x, rfl, hS⟩ := hh
  exact h x _ hS
def RowAt (ds : List M.D) (W : World) (v : Value) (w' : World) : Prop := DRow w' W.heap.size v ds ∧ Below W.heap.size W w'
theorem behind_at (A : Option Addr) (n c : Nat) (ds : List M.D) (z : M.D) (w : World) (h : RdDocs w w.heap.size A n c ds) (hn : n * 40 ≤ 140737488355328) :
    Calls Try.prog 12 #[.slice A n c, .int .i64 z.time, .string ⟨z.id.toArray⟩] w (fun e w' => ∃ v, e = .returned v ∧ RowAt (ds.filter (M.ahead z)) w v w') := behind_any A n c ds z.time z.id w h hn
/-- the page that is next -/
theorem pages_step {acc P : List M.D} {ls : List (List M.D)} {N : Nat} (hs : M.MStr acc M.ahead) (he : P ++ M.mall M.ahead ls = acc) (hN : N < (M.mall M.ahead ls).length) (ho : ∀ x ∈ ls, M.MOrd M.ahead x) :
    (P ++ (M.mall M.ahead ls).take (N + 1)) ++ M.mall M.ahead (ls.map (List.filter (M.ahead (M.mall M.ahead ls)[N]))) = acc := by
  rw [← M.mall_filter M.ahead_pre _ ho]
  have e1 : M.mall M.ahead ls = (M.mall M.ahead ls).take N ++ (M.mall M.ahead ls)[N] :: (M.mall M.ahead ls).drop (N + 1) := by rw [← List.drop_eq_getElem_cons hN, List.take_append_drop]
  have hq : M.MStr (M.mall M.ahead ls) M.ahead := M.str_drop (p := P) (by rw [he]; exact hs)
  have e2 : (M.mall M.ahead ls).filter (M.ahead (M.mall M.ahead ls)[N]) = (M.mall M.ahead ls).drop (N + 1) := by
    have h3 : M.MStr ((M.mall M.ahead ls).take N ++ (M.mall M.ahead ls)[N] :: (M.mall M.ahead ls).drop (N + 1)) M.ahead := by rw [← e1]; exact hq
    have := M.str_filter M.ahead_pre h3
    rwa [← e1] at this
  rw [e2, List.append_assoc, List.take_append_drop, he]
theorem lists_snoc (rs : List Dr) (r : Dr) : lists (rs ++ [r]) = lists rs ++ [r.ds] := by simp [lists]

/-- lists that can be read in whatever world in which at most the blocks of F have turned -/
def FirmL (F : Nat → Prop) (w : World) (A : Option Addr) (n c : Nat) (rs : List Dr) : Prop := ∀ w', Turned F w w' → RdLists w' w'.heap.size A n c rs
theorem FirmL.now {F : Nat → Prop} {w : World} {A : Option Addr} {n c : Nat} {rs : List Dr} (h : FirmL F w A n c rs) : RdLists w w.heap.size A n c rs := h w (Turned.refl F w)
theorem FirmL.none_ {F : Nat → Prop} {w : World} {A : Option Addr} {n c : Nat} {rs : List Dr} (h : RdLists w w.heap.size A n c rs) (hF : ∀ k, k < w.heap.size → ¬ F k) : FirmL F w A n c rs := fun w' ht =>
  h.on ⟨ht.os, ht.tape, ht.output, ht.size, fun k hk => ht.block k hk (hF k hk)⟩
/-- a row of lists under way, all in memory from 'base' on -/
def Nx (base : Nat) (v : Value) (rs : List Dr) (w : World) : Prop :=
  w.ownsRow base 24 1 v rs.length (rs.map Dr.v) ∧ ∀ r ∈ rs, DRow w base r.v r.ds
theorem row_heap {w : World} {base n s k : Nat} {e : TypeId} {v : Value} {xs : List Value} (h : w.ownsRow base e s v n xs) (hk : v.ownBlock = some k) : ∃ cur, w.heap[k]? = some (.cells cur e (0, 0)) := by
  rcases h.2 with ⟨rfl, _⟩ | ⟨g, cap, cur, rfl, _, hh, _⟩
  · simp [Value.ownBlock] at hk
  · simp [Value.ownBlock] at hk; subst hk; exact ⟨cur, hh⟩
theorem Nx.below {base : Nat} {v : Value} {rs : List Dr} {w w' : World} (h : Nx base v rs w) (hb : Below w.heap.size w w') : Nx base v rs w' :=
  ⟨World.ownsRow.kept (row := none) h.1 ⟨hb.os, hb.tape, hb.output, hb.size, fun k hk _ => hb.block k hk⟩ (by cases hv : v.ownBlock <;> simp), fun r hr => (h.2 r hr).below hb⟩
theorem Nx.push {base m c g cap : Nat} {A : Option Addr} {rs : List Dr} {w w9 : World} {o : Obj} {r : Dr} (h : Nx base (.slice A m c) rs w) (hm : rs.length = m) (hr : DRow w base r.v r.ds)
    (hrow : w9.ownsRow base 24 1 (.slice (some ⟨g, 0, none⟩) (m + 1) cap) (m + 1) (rs.map Dr.v ++ [r.v])) (hg : (w.alloc o).grownBy w9 (Value.ownBlock (.slice A m c))) :
    Nx base (.slice (some ⟨g, 0, none⟩) (m + 1) cap) (rs ++ [r]) w9 := by
  have key : ∀ r : Dr, DRow w base r.v r.ds → DRow w9 base r.v r.ds := fun r hr => by
    refine DRow.kept (hr.below ((Below.refl _ w).alloc (Nat.le_refl _) o)) hg ?_
    cases e : r.v.ownBlock with
    | none => exact .inl rfl
    | some b =>
      refine .inr (fun e2 => ?_)
      obtain ⟨c1, h1⟩ := row_heap hr e
      obtain ⟨c2, h2⟩ := row_heap h.1 e2.symm
      rw [h1] at h2
      simp at h2
  refine ⟨?_, fun x hx => ?_⟩
  · rw [List.length_append, hm, List.map_append]; exact hrow
  · rcases List.mem_append.1 hx with hx | hx
    · exact key x (h.2 x hx)
    · simp only [List.mem_singleton] at hx; subst hx; exact key x hr
/-- what is under way can be read, also where blocks ahead of it turn -/
theorem Nx.firm {base : Nat} {A : Option Addr} {m c : Nat} {rs : List Dr} {w : World} {F : Nat → Prop} (h : Nx base (.slice A m c) rs w) (hm : rs.length = m) (hF : ∀ k, F k → k < base) : FirmL F w A m c rs := fun w' ht => by
  subst hm
  have hrow : w'.ownsRow base 24 1 (.slice A rs.length c) rs.length (rs.map Dr.v) := by
    refine ⟨h.1.1, ?_⟩
    rcases h.1.2 with h2 | ⟨g, cap, cur, h1, hg, hh, r⟩
    · exact .inl h2
    · exact .inr ⟨g, cap, cur, h1, hg, (ht.block g (Array.getElem?_eq_some_iff.1 hh).1 (fun hf => by have := hF g hf; omega)).trans hh, r⟩
  have hrows : ∀ r ∈ rs, DRow w' base r.v r.ds := fun r hr => by
    have hd := h.2 r hr
    refine ⟨hd.1, ?_⟩
    rcases hd.2 with h2 | ⟨g, cap, cur, h1, hg, hh, r⟩
    · exact .inl h2
    · exact .inr ⟨g, cap, cur, h1, hg, (ht.block g (Array.getElem?_eq_some_iff.1 hh).1 (fun hf => by have := hF g hf; omega)).trans hh, r⟩
  have hcc : rs.length ≤ c ∧ c ≤ 9223372036854775807 := by
    rcases hrow.2 with ⟨h1, h0⟩ | ⟨g, cap, cur, h1, _, _, h2, h3, _⟩
    · injection h1 with e1 e2 e3; omega
    · injection h1 with e1 e2 e3; subst e3; exact ⟨by omega, by simpa only [maxLen] using h3⟩
  refine ⟨rfl, hcc.1, hcc.2, fun r hr => ?_, fun hn => ?_⟩
  · obtain ⟨A', c', hv, hrd⟩ := (hrows r hr).open_
    obtain ⟨rA, rn, rc, rds⟩ := r
    have hv' : Value.slice rA rn rc = .slice A' rds.length c' := hv
    injection hv' with e1 e2 e3
    subst e1 e2 e3
    exact hrd
  · rcases hrow.2 with ⟨h1, h0⟩ | ⟨g, cap, cur, h1, _, hh, h2, h3, _⟩
    · omega
    · injection h1 with e1 e2 e3
      subst e1
      refine ⟨g, 0, rfl, (Array.getElem?_eq_some_iff.1 hh).1, fun i hi => ?_⟩
      have hcell := World.ownsRow.cellAt hrow i (show i < rs.length * 1 by omega)
      rw [Nat.zero_add, hcell]
      simp [hi]
theorem Nx.nil (base : Nat) (w : World) : Nx base (.slice none 0 0) [] w := ⟨World.ownsRow_nil _ _ _ _, by simp⟩

set_option maxHeartbeats 1000000 in
theorem mergePages_long (A : Option Addr) (n c : Nat) (lim : Nat) (w : World) (hn : 8 < n) :
    Calls Try.prog 5 #[.slice A n c, .int .u8 (lim : Int)] w (SaysB true w) := by
  have HAW := Lib.hid (fun W => awake_any W)
  have hn1 : (8 : Int) < (n : Int) := by omega
  go_enter Try.func5, Try.ntmps5
  go_wp2_with fail
  refine (HAW.out _).mono ?_
  rintro e w1 ⟨rfl, hb1⟩
  have HB1 := Lib.hid hb1
  clear hb1
  go_wp2_with fail
  refine (HAW.out _).mono ?_
  rintro e w2 ⟨rfl, hb2⟩
  have HB2 := Lib.hid (HB1.out.trans (hb2.mono HB1.out.size))
  clear hb2
  go_wp2
  go_ret
  exact ⟨rfl, HB2.out⟩

set_option maxHeartbeats 8000000 in
theorem mergePages_main (A : Option Addr) (n c lim : Nat) (rs : List Dr) (w : World) (h : RdLists w w.heap.size A n c rs) (hlim : lim < 256) (hn8 : n ≤ 8) :
    Calls Try.prog 5 #[.slice A n c, .int .u8 (lim : Int)] w (SaysB true w) := by
  have H := Lib.hid h; have HN := Lib.hid h.1
  have hc := h.2.1; have hcm := h.2.2.1
  have HAW := Lib.hid (awake_any w)
  have hn1 : ¬ (8 : Int) < (n : Int) := by omega
  obtain ⟨t, ht⟩ : ∃ t, lim % 20 = t := ⟨_, rfl⟩
  have hwl : IntKind.i64.wrap (lim : Int) = (lim : Int) := by rw [IntKind.wrap_i64]; omega
  have htm : (lim : Int).tmod 20 = (t : Int) := by rw [Int.tmod_eq_emod_of_nonneg (by omega), ← ht, Int.natCast_emod]; rfl
  have ht20 : t < 20 := by rw [← ht]; exact Nat.mod_lt _ (by omega)
  have hw1t : IntKind.i64.wrap (1 + (t : Int)) = ((t + 1 : Nat) : Int) := by rw [IntKind.wrap_i64]; omega
  obtain ⟨N, hN⟩ : ∃ N, t + 1 = N := ⟨_, rfl⟩
  rw [hN] at hw1t
  have hN1 : 1 ≤ N := by omega
  have hN2 : N ≤ 20 := by omega
  clear h ht hN ht20
  go_enter Try.func5, Try.ntmps5
  go_wp2_with fail
  refine HAW.out.mono ?_
  rintro e w1 ⟨rfl, hb1⟩
  have HB1 := Lib.hid hb1
  clear hb1 HAW
  go_wp2
  go_loopw [6, 7] (fun o p wr => ∃ (j m ca : Nat) (Aa : Option Addr) (acc : List M.D), p = .int .i64 j ∧ o = .slice Aa m ca ∧ j ≤ n ∧ m ≤ 30 * j ∧ Hid (acc = M.mall M.ahead (lists (rs.take j))) ∧ Hid (M.MOrd M.ahead acc) ∧ Hid (∀ r ∈ rs.take j, M.risesB r.ds = true) ∧ Hid (RdDocs wr wr.heap.size Aa m ca acc) ∧ Hid (Below w1.heap.size w1 wr)) (fun _ p _ => n - (intOf p).toNat)
  case atStart => exact ⟨0, 0, 0, none, [], rfl, rfl, Nat.zero_le _, Nat.zero_le _, Lib.hid (by simp [lists, M.mall]), Lib.hid trivial, Lib.hid (by simp), Lib.hid RdDocs.none_, Lib.hid (Below.refl _ _)⟩
  case round =>
    obtain ⟨j, m, ca, Aa, acc, rfl, rfl, hj, hm, HA, HO, HI, HD, HBJ⟩ := hrel
    rename World => wj
    have HBWJ := Lib.hid (HB1.out.trans (HBJ.out.mono HB1.out.size))
    have hca1 := HD.out.2.1; have hca2 := HD.out.2.2.1
    by_cases hlt : j < n
    · have hjx : j < rs.length := by have := HN.out; omega
      have hji : (j : Int) < (n : Int) := by omega
      have hw1 : IntKind.i64.wrap ((j : Int) + 1) = (j : Int) + 1 := by rw [IntKind.wrap_i64]; omega
      obtain ⟨b, off, rfl, hb, q⟩ := H.out.at_ hjx
      have HR := Lib.hid (show RdDocs w w.heap.size rs[j].A rs[j].n rs[j].c rs[j].ds from H.out.2.2.2.1 rs[j] (List.getElem_mem hjx))
      have HNX := Lib.hid (lists_next hjx)
      have HIN := Lib.hid (show M.risesB rs[j].ds = true → ∀ r ∈ rs.take (j + 1), M.risesB r.ds = true from fun e r hr => by
        rw [List.take_succ_eq_append_getElem hjx] at hr
        rcases List.mem_append.1 hr with hr | hr
        · exact HI.out r hr
        · simp only [List.mem_singleton] at hr; rw [hr]; exact e)
      unfold Dr.v at q
      generalize rs[j] = r at *
      obtain ⟨Ar, nr, cr, ds⟩ := r
      simp only at q HR HNX HIN
      have HQ := Lib.hid q
      have qj := cell_on HBWJ.out HQ.out
      have hcr := HR.out.2.1; have hcr2 := HR.out.2.2.1
      clear q HI
      by_cases h30 : 30 < nr
      · have h1 : (30 : Int) < (nr : Int) := by omega
        go_wp2
        go_ret
        exact ⟨rfl, HBWJ.out⟩
      have h1 : ¬ (30 : Int) < (nr : Int) := by omega
      have HRI := Lib.hid (rises_any Ar nr cr ds wj (HR.out.on HBWJ.out))
      obtain ⟨bo, hbo⟩ : ∃ bo, M.risesB ds = bo := ⟨_, rfl⟩
      have HBO := Lib.hid hbo
      rw [hbo] at HRI HIN
      clear hbo
      cases bo
      · go_wp2_with fail
        refine HRI.out.mono ?_
        rintro e w5 ⟨rfl, hb5⟩
        have HB5 := Lib.hid (HBWJ.out.trans (hb5.mono HBWJ.out.size))
        clear hb5
        go_wp2
        go_ret
        exact ⟨rfl, HB5.out⟩
      have HIN2 := Lib.hid (HIN.out rfl)
      have HRO := Lib.hid (M.risesB_ord HBO.out)
      clear HIN HBO
      go_wp2_with fail
      refine HRI.out.mono ?_
      rintro e wi ⟨rfl, hbi⟩
      have HBI := Lib.hid (HBJ.out.trans (hbi.mono HBJ.out.size))
      have HDI := Lib.hid (HD.out.on hbi)
      have HBWI := Lib.hid (HBWJ.out.trans (hbi.mono HBWJ.out.size))
      clear hbi qj HRI
      go_wp2
      go_loopw [6, 8] (fun o p wr => ∃ (k m2 ca2 : Nat) (A2 : Option Addr) (acc2 : List M.D), p = .int .i64 k ∧ o = .slice A2 m2 ca2 ∧ k ≤ nr ∧ Hid (m2 = m + k) ∧ Hid (acc2 = (ds.take k).foldl (M.dput M.ahead) acc) ∧ Hid (M.MOrd M.ahead acc2) ∧ Hid (RdDocs wr wr.heap.size A2 m2 ca2 acc2) ∧ Hid (Below wi.heap.size wi wr)) (fun _ p _ => nr - (intOf p).toNat)
      case atStart => exact ⟨0, m, ca, Aa, acc, rfl, rfl, Nat.zero_le _, Lib.hid rfl, Lib.hid rfl, HO, HDI, Lib.hid (Below.refl _ _)⟩
      case round =>
        obtain ⟨k, m2, ca2, A2, acc2, rfl, rfl, hk, HM2, HA2, HO2, HD2, HBK⟩ := hrel
        have hm2b : m2 ≤ 30 * j + k := by have := HM2.out; omega
        rename World => wk
        have HBWK := Lib.hid (HBWI.out.trans (HBK.out.mono HBWI.out.size))
        have q0 := cell_on HBWK.out HQ.out
        have hcb1 := HD2.out.2.1; have hcb2 := HD2.out.2.2.1
        by_cases hlk : k < nr
        · have hkx : k < ds.length := by have := HR.out.1; omega
          have hki : (k : Int) < (nr : Int) := by omega
          have hw2 : IntKind.i64.wrap ((k : Int) + 1) = (k : Int) + 1 := by rw [IntKind.wrap_i64]; omega
          obtain ⟨rb, roff, rfl, hrb, x0, x1, x2⟩ := HR.out.at_ hkx
          have p0 := cell_on HBWK.out x0; have p1 := cell_on HBWK.out x1; have p2 := cell_on HBWK.out x2
          have HFN := Lib.hid (foldl_next (M.dput M.ahead) ds k hkx acc)
          clear x0 x1 x2
          generalize ds[k] = d at *
          have hpu := put_any A2 m2 ca2 acc2 d wk HD2.out (by omega) HO2.out
          have HOX := Lib.hid (ord_dput HO2.out d)
          have HLX := Lib.hid (show (M.dput M.ahead acc2 d).length = m2 + 1 by rw [len_dput, HD2.out.1])
          rw [← HA2.out] at HFN
          obtain ⟨did, dtm, dtx⟩ := d
          unfold dval at hpu
          simp only at hpu p0 p1 p2
          have HPU := Lib.hid hpu
          clear hpu
          go_wp2_with fail
          refine HPU.out.mono ?_
          rintro e w5 ⟨v5, rfl, hrow5, hb5⟩
          obtain ⟨A5, c5, rfl, hr5⟩ := hrow5.open_
          rw [HLX.out] at hr5 ⊢
          have HR5 := Lib.hid hr5
          have HB5 := Lib.hid (HBK.out.trans (hb5.mono HBK.out.size))
          clear hrow5 hb5 hr5
          go_wp2
          go_roundw
          case rel => exact ⟨k + 1, m2 + 1, c5, A5, _, by go_num, rfl, by omega, Lib.hid (by have := HM2.out; omega), Lib.hid HFN.out.symm, HOX, HR5, HB5⟩
          case measure => simp [intOf]; omega
        · obtain rfl : k = nr := by omega
          have HAX := Lib.hid (show acc2 = M.mall M.ahead (lists (rs.take (j + 1))) by
            have e := HA2.out
            rw [List.take_of_length_le (by have := HR.out.1; omega), M.put_all M.ahead_pre _ _ HRO.out, HA.out] at e
            rw [HNX.out, e])
          have HBX := Lib.hid (HBI.out.trans (HBK.out.mono HBI.out.size))
          go_wp2
          go_roundw
          case rel => exact ⟨j + 1, m2, ca2, A2, acc2, by go_num, rfl, by omega, by omega, HAX, HO2, HIN2, HD2, HBX⟩
          case measure => simp [intOf]; omega
    · obtain rfl : j = n := by omega
      have HAE := Lib.hid (show acc = M.mall M.ahead (lists rs) by have := HA.out; rwa [List.take_of_length_le (by have := HN.out; omega)] at this)
      have HRIS := Lib.hid (show ∀ r ∈ rs, M.risesB r.ds = true by have := HI.out; rwa [List.take_of_length_le (by have := HN.out; omega)] at this)
      obtain ⟨w2, hw2⟩ : ∃ w2, w2 = wj := ⟨_, rfl⟩
      rw [← hw2] at HBJ HBWJ HD ⊢
      obtain ⟨i, hi⟩ : ∃ i, i = m := ⟨_, rfl⟩
      rw [← hi] at HD hm hca1 ⊢
      clear hw2 hlt HA HI hi
      have HBW := HBWJ
      have HIL := Lib.hid (show i = acc.length from HD.out.1)
      go_wp2
      go_loopw [9] (fun p wr => ∃ j : Nat, p = .int .i64 ((j : Int) + 1) ∧ j ≤ i ∧ Hid (∀ k (hk : k + 1 < acc.length), k < j → M.ahead acc[k] acc[k + 1] = true) ∧ Hid (Below w2.heap.size w2 wr)) (fun p _ => i + 1 - (intOf p).toNat)
      case atStart => exact ⟨0, by go_num, Nat.zero_le _, Lib.hid (fun k hk hj => by omega), Lib.hid (Below.refl _ _)⟩
      case round =>
        obtain ⟨j, rfl, hj, HS, HBJ⟩ := hrel
        rename World => wj
        have HBWJ := Lib.hid (HBW.out.trans (HBJ.out.mono HBW.out.size))
        by_cases hlt : j + 1 < i
        · have hj1 : j + 1 < acc.length := by have := HIL.out; omega
          have hw1 : IntKind.i64.wrap (j : Int) = (j : Int) := by rw [IntKind.wrap_i64]; omega
          have hw2 : IntKind.i64.wrap ((j : Int) + 1 + 1) = (j : Int) + 1 + 1 := by rw [IntKind.wrap_i64]; omega
          have hjm : (j : Int) < (i : Int) := by omega
          have hjm1 : (j : Int) + 1 < (i : Int) := by omega
          have hj0 : (0 : Int) ≤ (j : Int) + 1 := by omega
          obtain ⟨db, off, hA, hdb, hcells⟩ := HD.out.2.2.2 (by omega)
          subst hA
          obtain ⟨q0, q1, q2⟩ := hcells j (by omega)
          obtain ⟨r0, r1, r2⟩ := hcells (j + 1) hj1
          have HV := Lib.hid (show TwoS w2 db (off + j * 3) db (off + (j + 1) * 3) acc[j] acc[j + 1] wj.drew from TwoS.drew ⟨cell_on HBJ.out q0, cell_on HBJ.out q1, cell_on HBJ.out q2, cell_on HBJ.out r0, cell_on HBJ.out r1, cell_on HBJ.out r2, HBJ.out⟩)
          have HNX := Lib.hid (show M.ahead acc[j] acc[j + 1] = true → ∀ k (hk : k + 1 < acc.length), k < j + 1 → M.ahead acc[k] acc[k + 1] = true from fun ha k hk hkj => by
            rcases Nat.lt_or_ge k j with h | h
            · exact HS.out k hk h
            · obtain rfl : k = j := by omega
              exact ha)
          clear hcells q0 q1 q2 r0 r1 r2 HS
          generalize acc[j] = x at *
          generalize acc[j + 1] = y at *
          have HOR := Lib.hid (fun W => ahead_any x y W)
          obtain ⟨ab, hab⟩ : ∃ ab, M.ahead x y = ab := ⟨_, rfl⟩
          rw [hab] at HOR HNX
          clear hab
          obtain ⟨i1, t1, x1⟩ := x
          obtain ⟨i2, t2, x2⟩ := y
          unfold dval at HOR
          simp only at HOR
          cases ab
          · go_wp2_with fail
            go_region_held3 (fun W => W.cell? ⟨db, off + j * 3, none⟩ = some (.string ⟨i1.toArray⟩) ∧ W.cell? ⟨db, off + j * 3 + 1, none⟩ = some (.int .i64 t1) ∧ W.cell? ⟨db, off + j * 3 + 2, none⟩ = some (.string ⟨x1.toArray⟩) ∧
                W.cell? ⟨db, off + (j + 1) * 3, none⟩ = some (.string ⟨i2.toArray⟩) ∧ W.cell? ⟨db, off + (j + 1) * 3 + 1, none⟩ = some (.int .i64 t2) ∧ W.cell? ⟨db, off + (j + 1) * 3 + 2, none⟩ = some (.string ⟨x2.toArray⟩) ∧ Below w2.heap.size w2 W)
              (first | exact hHeld | exact HV.out | exact hV2 | fail)
              (first
                | (go_at_call 13; refine (HOR.out _).mono ?_; rintro e w5 ⟨rfl, hb2⟩; have hV2 := HV.out.on hb2)
                | fail)
            all_goals
              have HB2 := Lib.hid (HBW.out.trans (hV2.bel.mono HBW.out.size))
              clear hb2 hV2
              go_wp2
              go_ret
              exact ⟨rfl, HB2.out⟩
          · have HNX' := Lib.hid (HNX.out rfl)
            clear HNX
            go_wp2_with fail
            go_region_held3 (fun W => W.cell? ⟨db, off + j * 3, none⟩ = some (.string ⟨i1.toArray⟩) ∧ W.cell? ⟨db, off + j * 3 + 1, none⟩ = some (.int .i64 t1) ∧ W.cell? ⟨db, off + j * 3 + 2, none⟩ = some (.string ⟨x1.toArray⟩) ∧
                W.cell? ⟨db, off + (j + 1) * 3, none⟩ = some (.string ⟨i2.toArray⟩) ∧ W.cell? ⟨db, off + (j + 1) * 3 + 1, none⟩ = some (.int .i64 t2) ∧ W.cell? ⟨db, off + (j + 1) * 3 + 2, none⟩ = some (.string ⟨x2.toArray⟩) ∧ Below w2.heap.size w2 W)
              (first | exact hHeld | exact HV.out | exact hV2 | fail)
              (first
                | (go_at_call 13; refine (HOR.out _).mono ?_; rintro e w5 ⟨rfl, hb2⟩; have hV2 := HV.out.on hb2)
                | fail)
            all_goals
              have HB2 := Lib.hid hV2.bel
              clear hb2 hV2
              go_wp2
              go_roundw
              case rel => exact ⟨j + 1, by go_num, by omega, HNX', HB2⟩
              case measure => simp [intOf]; omega
        · have HSTR := Lib.hid (show M.MStr acc M.ahead from M.str_of' (fun k hk => HS.out k hk (by have := HIL.out; omega)))
          have hq : ¬ (j : Int) + 1 < (i : Int) := by omega
          have HDJ := Lib.hid (HD.out.on HBJ.out)
          clear HS
          obtain ⟨w4, hw4⟩ : ∃ w4, w4 = wj := ⟨_, rfl⟩
          rw [← hw4] at HDJ HBWJ ⊢
          have HF0 := Lib.hid (FirmL.none_ (F := fun k => Value.ownBlock (.slice none 0 0) = some k) (H.out.on HBWJ.out) (fun k _ e => by simp [Value.ownBlock] at e))
          have HG0 := Lib.hid (DInv.start w4)
          have HE0 := Lib.hid (show [] ++ M.mall M.ahead (lists rs) = acc from HAE.out.symm)
          obtain ⟨i0, hi0, hz0, hz1, hz2⟩ := info_of Try.infoDoc
          have HI := Lib.hid hi0; have HZ0 := Lib.hid hz0; have HZ1 := Lib.hid hz1; have HZ2 := Lib.hid hz2
          obtain ⟨il, hil0, hl0, hl1, hl2⟩ := info_of Try.infoList
          have HJ := Lib.hid hil0; have HJ0 := Lib.hid hl0; have HJ1 := Lib.hid hl1; have HJ2 := Lib.hid hl2
          clear hi0 hz0 hz1 hz2 hil0 hl0 hl1 hl2 hw4 hq HAE
          have hi240 : i ≤ 240 := by omega
          obtain ⟨N1, hN1e⟩ : ∃ N1, N = N1 + 1 := ⟨N - 1, by omega⟩
          have hwN : IntKind.i64.wrap ((N : Int) - 1) = (N1 : Int) := by rw [IntKind.wrap_i64]; omega
          have hN1i : (N1 : Int) < (N : Int) := by omega
          have HN1 := Lib.hid hN1e
          clear hN1e
          go_wp2
          go_loopw [10, 11] (fun g r wr => ∃ (mg cg : Nat) (Ag : Option Addr) (P : List M.D) (Ar : Option Addr) (nr cr : Nat) (rs' : List Dr), g = .slice Ag mg cg ∧ r = .slice Ar nr cr ∧ mg ≤ i ∧ nr ≤ 8 ∧ Hid (P.length = mg) ∧ Hid (DInv w4 (.slice Ag mg cg) P wr) ∧
              Hid (FirmL (fun k => Value.ownBlock (.slice Ag mg cg) = some k) wr Ar nr cr rs') ∧ Hid (∀ r ∈ rs', M.risesB r.ds = true) ∧ Hid (P ++ M.mall M.ahead (lists rs') = acc)) (fun g _ _ => i + 1 - lenV g)
          case atStart => exact ⟨0, 0, none, [], A, _, c, rs, rfl, rfl, Nat.zero_le _, hn8, Lib.hid rfl, HG0, HF0, HRIS, HE0⟩
          case round =>
            clear HF0 HG0 HE0
            obtain ⟨mg, cg, Ag, P, Ar, nr, cr, rs', rfl, rfl, hmg, hnr, HPL, HV, HF, HRS, HE⟩ := hrel
            rename World => wr
            have hRL := HF.out.now
            have HRL := Lib.hid hRL
            have hcr1 := hRL.2.1; have hcr2 := hRL.2.2.1
            have htl := totD_len (w := wr) (B := wr.heap.size) (rs := rs') hRL.2.2.2.1
            have hsum : mg + totD rs' = i := by
              have e := congrArg List.length HE.out
              rw [List.length_append, htl, HPL.out] at e
              rw [e]; exact HIL.out.symm
            have HM := Lib.hid (merge_any Ar nr cr N rs' wr hRL (by omega) (by omega))
            have HBW4 := Lib.hid (HBWJ.out.trans (HV.out.2.mono HBWJ.out.size))
            obtain ⟨hmc, hcom⟩ : mg ≤ cg ∧ cg ≤ 9223372036854775807 := by
              obtain ⟨A', c', e, hrd⟩ := HV.out.form
              injection e with e1 e2 e3
              subst e3
              exact ⟨by have := hrd.2.1; have := HPL.out; omega, hrd.2.2.1⟩
            have HTL := Lib.hid htl; have HSUM := Lib.hid hsum
            have HPG := Lib.hid (fun (hN : N1 < (M.mall M.ahead (lists rs')).length) => pages_step HSTR.out HE.out hN (fun x hx => by
              obtain ⟨r, hr, rfl⟩ := List.mem_map.1 hx
              exact M.risesB_ord (HRS.out r hr)))
            obtain ⟨Q, hQ⟩ : ∃ Q, Q = M.mall M.ahead (lists rs') := ⟨_, rfl⟩
            have HQ := Lib.hid hQ
            have HQL := Lib.hid (show Q.length = totD rs' by rw [hQ]; exact HTL.out)
            clear hRL htl hsum hQ
            go_wp2_with fail
            refine HM.out.mono ?_
            rintro e w6 ⟨hb6, hx⟩
            rcases hx with ⟨⟨r, hr, hbad⟩, _⟩ | ⟨_, v, rfl, hrow⟩
            · exfalso
              have := HRS.out r hr
              rw [hbad] at this
              cases this
            rw [← HQ.out] at hrow
            have hrow6 := hrow
            obtain ⟨A7, c7, rfl, hr7⟩ := hrow.open_
            have HB6 := Lib.hid hb6; have HROW6 := Lib.hid hrow6
            have hc7 := hr7.2.1; have hc72 := hr7.2.2.1
            have HR7 := Lib.hid hr7
            have HV6 := Lib.hid (show DInv w4 (.slice Ag mg cg) P w6 from ⟨HV.out.1.below hb6, HV.out.2.trans (hb6.mono HV.out.2.size)⟩)
            have HO6 := Lib.hid (show World.ownsRow w6 w4.heap.size 31 3 (.slice Ag mg cg) mg (dcells P) by have := HV6.out.1; unfold DRow at this; rwa [HPL.out] at this)
            have hs6 := HV6.out.2.size
            have HT6 := Lib.hid (show Turned (fun k => Value.ownBlock (.slice Ag mg cg) = some k) wr w6 from Turned.of_below hb6)
            have hsum : mg + totD rs' = i := HSUM.out
            clear hrow hr7 hb6 HM hrow6
            by_cases hNt : N < totD rs'
            · have hlen : (Q.take N).length = N := by rw [List.length_take, HQL.out]; omega
              rw [hlen] at HR7 HROW6 hc7 ⊢
              have hdec : decide (N < totD rs') = true := decide_eq_true hNt
              rw [hdec]
              have HQN := Lib.hid hlen
              have hnz : ((N : Int) == 0) = false := by simp; omega
              clear hlen hdec hNt
              go_wp2_with (at_builtin; go_must (refine wpList_appD _ rfl (.tmp 101) (.tmp 102) _ rfl w4.heap.size _ _ i0 _ Try.underlying24 HI.out HZ0.out HZ1.out HZ2.out rfl (.slice Ag mg cg) mg _ HO6.out rfl _ _ _ _ HR7.out rfl (by omega) hs6 ?_))
              intro v8 w8 hrow8 hg8 hat8
              have hv8 := HV6.out.of_row (ys := Q.take N) (k := mg + N) (by have h1 := HPL.out; have h2 := HQN.out; omega) hrow8 hg8
              obtain ⟨A8, c8, rfl, hr8⟩ := hv8.form
              have hlk : (P ++ Q.take N).length = mg + N := by have h1 := HPL.out; have h2 := HQN.out; rw [List.length_append]; omega
              have HLK := Lib.hid hlk
              rw [hlk] at hv8 hr8 ⊢
              have HV8 := Lib.hid hv8
              have hne7 : (Value.slice A7 N c7).ownBlock = none ∨ (Value.slice A7 N c7).ownBlock ≠ (Value.slice Ag mg cg).ownBlock := by
                cases e : (Value.slice A7 N c7).ownBlock with
                | none => exact .inl rfl
                | some b =>
                  refine .inr (fun e2 => ?_)
                  have h1 := (World.ownsRow.lt HROW6.out b e).1
                  have h2 := (World.ownsRow.lt HV.out.1 b e2.symm).2
                  omega
              have hrow7 : DRow w8 wr.heap.size (.slice A7 N c7) (Q.take N) := HROW6.out.kept hg8 hne7
              obtain ⟨A7', c7', hv7, hr7⟩ := hrow7.open_
              rw [HQN.out] at hv7 hr7
              injection hv7 with e1 e2 e3
              subst e1 e3
              have hN1l : N1 < (Q.take N).length := by rw [HQN.out]; have := HN1.out; omega
              obtain ⟨bz, oz, rfl, hbz, z0, z1, z2⟩ := hr7.at_ hN1l
              have hN1q : N1 < Q.length := by rw [HQL.out]; have := HN1.out; have := hN1l; rw [List.length_take, HQL.out] at this; omega
              have hzq : (Q.take N)[N1] = Q[N1] := by rw [List.getElem_take]
              rw [hzq] at z0 z1 z2
              have hPG := HPG.out (by rw [← HQ.out]; exact hN1q)
              have hPG2 : P ++ Q.take N ++ M.mall M.ahead ((lists rs').map (List.filter (M.ahead Q[N1]))) = acc := by
                have e := hPG
                simp only [← HQ.out] at e
                rw [HN1.out]
                exact e
              have HPG2 := Lib.hid hPG2
              have HFR := Lib.hid (HF.out w8 (HT6.out.grown hg8 (fun k hk => .inl hk)))
              have hw68 : w6.heap.size ≤ w8.heap.size := hg8.size
              have hA8 : ∀ k, Value.ownBlock (.slice A8 (mg + N) c8) = some k → k < w8.heap.size := fun k hk => (World.ownsRow.lt HV8.out.1 k hk).2
              have HA8 := Lib.hid hA8
              clear hrow8 hg8 hat8 hr8 hv8 hlk hne7 hrow7 hr7 hN1l hzq hPG hPG2 hA8 HPG
              generalize Q[N1] = z at *
              obtain ⟨zid, ztm, ztx⟩ := z
              simp only at z0 z1 z2
              obtain ⟨w9, hw9⟩ : ∃ w9, w9 = w8.alloc (.cells #[.string ⟨zid.toArray⟩, .int .i64 ztm, .string ⟨ztx.toArray⟩] 31) := ⟨_, rfl⟩
              have HB89 := Lib.hid (show Below w8.heap.size w8 w9 by rw [hw9]; exact (Below.refl _ _).alloc (Nat.le_refl _) _)
              have HZ9 := Lib.hid (show DocIn w9 w8.heap.size ⟨zid, ztm, ztx⟩ by rw [hw9]; exact heap_alloc_new w8 _)
              have HR9 := Lib.hid (HFR.out.on HB89.out)
              have HV9 := Lib.hid (show DInv w4 (.slice A8 (mg + N) c8) (P ++ Q.take N) w9 from ⟨HV8.out.1.below HB89.out, HV8.out.2.trans (HB89.out.mono HV8.out.2.size)⟩)
              have HNX0 := Lib.hid (Nx.nil w9.heap.size w9)
              go_wp2
              rw [← hw9]
              clear hw9
              go_loopw [16, 17] (fun o p wq => ∃ (k c5 : Nat) (A5 : Option Addr) (rows : List Dr), p = .int .i64 k ∧ o = .slice A5 k c5 ∧ k ≤ nr ∧ Hid (rows.length = k) ∧ Hid (Nx w9.heap.size (.slice A5 k c5) rows wq) ∧ Hid (lists rows = ((lists rs').take k).map (List.filter (M.ahead ⟨zid, ztm, ztx⟩))) ∧ Hid (Below w9.heap.size w9 wq)) (fun _ p _ => nr - (intOf p).toNat)
              case atStart => exact ⟨0, 0, none, [], rfl, rfl, Nat.zero_le _, Lib.hid rfl, HNX0, Lib.hid (by simp [lists]), Lib.hid (Below.refl _ _)⟩
              case round =>
                obtain ⟨k, c5, A5, rows, rfl, rfl, hk, HRL5, HNX, HLS, HBQ⟩ := hrel
                rename World => wq
                obtain ⟨hkc, hkcm⟩ : k ≤ c5 ∧ c5 ≤ 9223372036854775807 := by
                  have := (HNX.out.firm (F := fun _ => False) HRL5.out (fun _ h => h.elim)).now
                  exact ⟨this.2.1, this.2.2.1⟩
                by_cases hlk : k < nr
                · have hkx : k < rs'.length := by have := HR9.out.1; omega
                  have hki : (k : Int) < (nr : Int) := by omega
                  have hw2 : IntKind.i64.wrap ((k : Int) + 1) = (k : Int) + 1 := by rw [IntKind.wrap_i64]; omega
                  obtain ⟨br, orr, hAr, hbr, q⟩ := HR9.out.at_ hkx
                  subst hAr
                  have HOK := Lib.hid (show RdDocs wq wq.heap.size rs'[k].A rs'[k].n rs'[k].c rs'[k].ds from RdDocs.on (HR9.out.2.2.2.1 rs'[k] (List.getElem_mem hkx)) HBQ.out)
                  have HRT := Lib.hid (show rs'[k].n ≤ totD rs' from by
                    have h1 := totD_next hkx; have h2 := totD_le rs' (k + 1); omega)
                  have HLN := Lib.hid (show (lists rs').take (k + 1) = (lists rs').take k ++ [rs'[k].ds] from by
                    have : k < (lists rs').length := by simpa [lists] using hkx
                    rw [List.take_succ_eq_append_getElem this]; simp [lists])
                  unfold Dr.v at q
                  generalize rs'[k] = r at *
                  obtain ⟨Ab, nb, cb, dsb⟩ := r
                  simp only at q HOK HRT HLN
                  have q0 := cell_on HBQ.out q
                  have qd0 : wq.drew.cell? ⟨br, orr + k, none⟩ = some (.slice Ab nb cb) := q0
                  obtain ⟨z0, z1, z2⟩ := (HZ9.out.on HBQ.out).cells
                  simp only at z0 z1 z2
                  have zd0 : wq.drew.cell? ⟨w8.heap.size, 0, none⟩ = some (.string ⟨zid.toArray⟩) := z0
                  have zd1 : wq.drew.cell? ⟨w8.heap.size, 1, none⟩ = some (.int .i64 ztm) := z1
                  have HCL := Lib.hid (behind_at Ab nb cb dsb ⟨zid, ztm, ztx⟩ wq.drew HOK.out (by have := HRT.out; omega))
                  obtain ⟨fd, hfd⟩ : ∃ fd, fd = dsb.filter (M.ahead ⟨zid, ztm, ztx⟩) := ⟨_, rfl⟩
                  have HFD := Lib.hid hfd
                  rw [← hfd] at HCL
                  have hqs := HBQ.out.size
                  clear q hfd
                  go_wp2_with fail
                  go_region_law (first
                    | (refine step_call (by rfl) 12 #[.slice Ab nb cb, .int .i64 ztm, .string ⟨zid.toArray⟩] (by simp [Act.eval, go_sem]) (fun v => v) (RowAt fd wq.drew) HCL.out ?_; rintro v3 w3 ⟨hrow3, hb3⟩
                       obtain ⟨A3, c3, hv3, hr3⟩ := hrow3.open_
                       subst hv3
                       have hw3 : wq.heap.size ≤ w3.heap.size := hb3.size
                       have HROW3 := Lib.hid hrow3; have HB3 := Lib.hid (below_undrew hb3)
                       clear hrow3 hb3 hr3)
                    | (refine step_append_lies _ (by rfl) _ _ _ (by rfl) w9.heap.size 24 il _ 1 24 Try.underlying22 HJ.out HJ0.out HJ1.out HJ2.out rfl (by omega) (.slice A5 k c5) k (rows.map Dr.v) (by rfl) ((show World.ownsRow w3 w9.heap.size 24 1 (.slice A5 k c5) k (rows.map Dr.v) by have := (HNX.out.below HB3.out).1; rwa [HRL5.out] at this).alloc _)
                          ⟨w3.heap.size, 0, none⟩ 1 1 [.slice A3 fd.length c3] (by rfl) (by rfl) (World.news_of_block (cs := #[.slice A3 fd.length c3]) (t := 24) (fr := (0, 0)) (heap_alloc_new w3 _)) (by simp [Value.oneCell'])
                          (by omega) (by simp only [maxLen]; omega) (by omega) (by simp; omega) (w3.heap.size + 1) (by simp) ?_; intro gg cap wg hown4 hgrow hat hlt
                       have HOWN4 := Lib.hid hown4; have HGR := Lib.hid hgrow
                       clear hown4 hgrow hat)
                    | fail)
                  all_goals
                    have HN5 := Lib.hid (Nx.push (r := ⟨A3, fd.length, c3, fd⟩) (o := .cells #[.slice A3 fd.length c3] 24) (HNX.out.below HB3.out) HRL5.out (HROW3.out.less hqs) HOWN4.out ⟨HGR.out.os, HGR.out.tape, HGR.out.output, HGR.out.size, HGR.out.block⟩)
                    have HL5 := Lib.hid (show (rows ++ [(⟨A3, fd.length, c3, fd⟩ : Dr)]).length = k + 1 by rw [List.length_append, HRL5.out]; rfl)
                    have HS5 := Lib.hid (show lists (rows ++ [(⟨A3, fd.length, c3, fd⟩ : Dr)]) = ((lists rs').take (k + 1)).map (List.filter (M.ahead ⟨zid, ztm, ztx⟩)) by
                      rw [lists_snoc, HLS.out, HLN.out, List.map_append, HFD.out]; rfl)
                    have HB5 := Lib.hid (show Below w9.heap.size w9 wg from by
                      have h0 : Below w9.heap.size w9 (w3.alloc (.cells #[.slice A3 fd.length c3] 24)) := (HBQ.out.trans (HB3.out.mono hqs)).alloc (by omega) _
                      exact h0.grown (row := Value.ownBlock (.slice A5 k c5)) ⟨HGR.out.os, HGR.out.tape, HGR.out.output, HGR.out.size, HGR.out.block⟩ (by simp; omega) (fun k' hk' => (World.ownsRow.lt HNX.out.1 k' hk').1))
                    clear HOWN4 HGR
                    go_wp2
                    go_roundw
                    case rel => exact ⟨k + 1, cap, _, _, by go_num, rfl, by omega, HL5, HN5, HS5, HB5⟩
                    case measure => simp [intOf]; omega
                · obtain rfl : k = nr := by omega
                  have HLF := Lib.hid (show lists rows = (lists rs').map (List.filter (M.ahead ⟨zid, ztm, ztx⟩)) by
                    have e := HLS.out
                    rwa [List.take_of_length_le (by have := HR9.out.1; simp [lists]; omega)] at e)
                  have HVE := Lib.hid (show DInv w4 (.slice A8 (mg + N) c8) (P ++ Q.take N) wq from ⟨HV9.out.1.below HBQ.out, HV9.out.2.trans (HBQ.out.mono HV9.out.2.size)⟩)
                  have HFE := Lib.hid (HNX.out.firm (F := fun k => Value.ownBlock (.slice A8 (mg + N) c8) = some k) HRL5.out (fun k' hk' => by have h1 := HA8.out k' hk'; have h2 := HB89.out.size; omega))
                  have HRE := Lib.hid (show ∀ r ∈ rows, M.risesB r.ds = true from fun r hr => by
                    have h1 : r.ds ∈ lists rows := List.mem_map.2 ⟨r, hr, rfl⟩
                    rw [HLF.out] at h1
                    obtain ⟨x, hx, e⟩ := List.mem_map.1 h1
                    obtain ⟨r', hr', rfl⟩ := List.mem_map.1 hx
                    rw [← e]
                    exact M.risesB_of (M.ord_filter _ (M.risesB_ord (HRS.out r' hr'))))
                  have HEE := Lib.hid (show P ++ Q.take N ++ M.mall M.ahead (lists rows) = acc by rw [HLF.out]; exact HPG2.out)
                  have hmi : mg + N ≤ i := by have e := congrArg List.length HEE.out; rw [List.length_append, HLK.out] at e; have := HIL.out; omega
                  go_wp2
                  go_roundw
                  case rel => exact ⟨mg + N, c8, A8, _, A5, k, c5, rows, rfl, rfl, hmi, hnr, HLK, HVE, HFE, HRE, HEE⟩
                  case measure => show i + 1 - (mg + N) < i + 1 - mg; omega
            · have hlen : (Q.take N).length = totD rs' := by rw [List.length_take, HQL.out]; omega
              have htk : Q.take N = Q := List.take_of_length_le (by rw [HQL.out]; omega)
              rw [htk] at HR7 ⊢
              rw [HQL.out] at HR7 ⊢
              rw [hlen] at hc7
              have hdec : decide (N < totD rs') = false := decide_eq_false hNt
              rw [hdec]
              have hnt2 : ¬ (N : Int) < (totD rs' : Int) := by omega
              generalize htq : totD rs' = tq at *
              have hmt : mg + tq ≤ 4000 := by omega
              clear hlen hdec htk hsum
              go_wp2_with (at_builtin; go_must (refine wpList_appD _ rfl (.tmp 101) (.tmp 102) _ rfl w4.heap.size _ _ i0 _ Try.underlying24 HI.out HZ0.out HZ1.out HZ2.out rfl (.slice Ag mg cg) mg _ HO6.out rfl _ _ _ _ HR7.out rfl (by omega) hs6 ?_))
              intro v8 w8 hrow8 hg8 hat8
              have hv8 := HV6.out.of_row (ys := Q) (k := mg + tq) (by have h1 := HPL.out; have h2 := HQL.out; omega) hrow8 hg8
              obtain ⟨A8, c8, rfl, hr8⟩ := hv8.form
              have hall : P ++ Q = acc := by have e := HE.out; rwa [← HQ.out] at e
              rw [hall] at hr8 ⊢
              have HALL := Lib.hid (HDJ.out.on hv8.2)
              have HR8 := Lib.hid hr8
              have HB8 := Lib.hid (HBWJ.out.trans (hv8.2.mono HBWJ.out.size))
              have HSA := Lib.hid (same7_any A8 Aa _ c8 i ca acc w8 hr8 HALL.out)
              clear hrow8 hg8 hat8 hv8 hr8 hall
              go_wp2_with fail
              refine HSA.out.mono ?_
              rintro e w9 ⟨rfl, hb9⟩
              have HB9 := Lib.hid (HB8.out.trans (hb9.mono HB8.out.size))
              clear hb9
              go_wp2
              go_ret
              exact ⟨rfl, HB9.out⟩
end Go.Proofs.Ytpnhjcedhcgglaa
