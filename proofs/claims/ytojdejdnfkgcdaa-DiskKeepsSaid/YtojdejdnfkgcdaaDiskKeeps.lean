/-
  The law DiskKeeps, by the contracts.
-/
import Derived.Test.YtojdejdnfkgcdaaDiskL
namespace Go.Proofs.Ytojdejdnfkgcdaa
open Go.RowKit Mem FM

def kp (l : List UInt8) (sure ops : Nat) : St := ⟨5000, [⟨[97], l, sure, ()⟩], ops, 0, false⟩
theorem nmA_ready : ready1 nmA false = 0 := by decide
theorem kp1 (l : List UInt8) (h : l.length ≤ 1000) : appended (St.new 5000) nmA l = (0, kp l 0 1) := by
  unfold appended
  rw [show (St.new 5000).off = false from rfl, if_pos nmA_ready]
  unfold wrote
  rw [if_neg (by show ¬ (5000 - 0 < l.length); omega)]
  rfl
theorem kp2 (l : List UInt8) : synced (kp l 0 1) nmA = (0, kp l l.length 2) := by
  unfold synced
  rw [show (kp l 0 1).off = false from rfl, if_pos nmA_ready]
  unfold withSync
  have : find nmA.data.toList (kp l 0 1).files = some ⟨[97], l, 0, ()⟩ := rfl
  rw [this]
  rfl
theorem kp3 (l : List UInt8) (h : l.length ≤ 1000) : appended (kp l l.length 2) nmA l = (0, kp (l ++ l) l.length 3) := by
  unfold appended
  rw [show (kp l l.length 2).off = false from rfl, if_pos nmA_ready]
  unfold wrote
  rw [if_neg (by show ¬ (5000 - (l.length + 0) < l.length); omega)]
  unfold grow
  have : find nmA.data.toList (kp l l.length 2).files = some ⟨[97], l, l.length, ()⟩ := rfl
  rw [this]
  rfl
theorem kp4 (l : List UInt8) (k o : Nat) : readR (kp l k o) nmA = (l, 0) := by
  unfold readR
  rw [show (kp l k o).off = false from rfl, if_pos nmA_ready]
  have : find nmA.data.toList (kp l k o).files = some ⟨[97], l, k, ()⟩ := rfl
  rw [this]
theorem kp5 (l : List UInt8) (k o : Nat) (keep : Int) : ((find nmA.data.toList (restarted (kp l k o) [keep]).files).map fun f => (f.sure : Int)).getD 0 = (left l.length k keep : Nat) := rfl

theorem xor_one (x : UInt8) : bits BinOp.xor IntKind.u8 (x.toNat : Int) 1 = ((UInt8.ofNat (x.toNat ^^^ 1)).toNat : Int) := by
  have hx : x.toNat < 256 := UInt8.toNat_lt _
  have h1 : x.toNat ^^^ 1 < 256 := Nat.xor_lt_two_pow (n := 8) hx (by decide)
  rw [show (1 : Int) = ((1 : Nat) : Int) from rfl, u8_xor_nat _ _ hx (by decide)]
  rw [UInt8.toNat_ofNat', Nat.mod_eq_of_lt h1]

/-- bytes of the call's own, and a disk beside them, while the bytes are written over -/
def Beside (w : World) (F : Nat → Prop) (D : Nat) (s : St) (B n : Nat) (v : Value) (wr : World) : Prop :=
  (∃ l' : List UInt8, l'.length = n ∧ Own wr B 5 v l') ∧ DiskAt wr F D s ∧ (∀ k, v.ownBlock = some k → ¬ F k) ∧ Below w.heap.size w wr

theorem Beside.step {w wr : World} {F : Nat → Prop} {D B n i c g : Nat} {s : St} {l : List UInt8} (hB : w.heap.size ≤ B) (hl : l.length = n) (ho : Own wr B 5 (.slice (some ⟨g, 0, none⟩) n c) l) (hd : DiskAt wr F D s)
    (hn : ∀ k, (Value.slice (some ⟨g, 0, none⟩) n c).ownBlock = some k → ¬ F k) (hb : Below w.heap.size w wr) (b : UInt8) :
    Beside w F D s B n (.slice (some ⟨g, 0, none⟩) n c) (wr.setCell ⟨g, i, none⟩ (.int .u8 (b.toNat : Int))) := by
  subst hl
  refine ⟨⟨l.set i b, by simp, ?_⟩, hd.far (G := (· = g)) ((Turned.refl (· = g) wr).setCell (p := ⟨g, i, none⟩) (.inl rfl) _) (fun k hk e => hn g rfl (e ▸ hk)), hn, hb.setCell (p := ⟨g, i, none⟩) (Nat.le_trans hB (ho.lt g rfl).1) _⟩
  exact ho.stored i b

set_option maxRecDepth 100000 in
set_option maxHeartbeats 2000000 in
theorem diskKeeps_any (A : Option Addr) (n c : Nat) (l : List UInt8) (keep : Int) (w : World) (h : Rd w w.heap.size A n c l) (hk1 : -9223372036854775808 ≤ keep) (hk2 : keep ≤ 9223372036854775807) :
    Calls Try.prog 5 #[.slice A n c, .int .i64 keep] w (Yes w) := by
  obtain ⟨i0, hi, hz0, hz1, hz2⟩ := info_parts Try.info_byte
  have HI := Lib.hid hi; have HZ0 := Lib.hid hz0; have HZ1 := Lib.hid hz1; have HZ2 := Lib.hid hz2
  clear hi hz0 hz1 hz2
  have HN := Lib.hid h.len
  have hm := h.max; have hc := h.cap
  by_cases hbig : 1000 < n
  · go_enter Try.func5, Try.ntmps5
    go_wp2_with fail
    refine (awake_any _).mono ?_
    rintro e w1 ⟨rfl, hb1⟩
    go_wp2_with fail
    refine (awake_any _).mono ?_
    rintro e w2 ⟨rfl, hb2⟩
    go_wp2
    go_ret
    exact ⟨rfl, hb1.trans (hb2.mono hb1.size)⟩
  · have HL := Lib.hid (show l.length ≤ 1000 by rw [← HN.out]; omega)
    go_enter Try.func5, Try.ntmps5
    go_wp2_with fail
    refine (awake_any _).mono ?_
    rintro e w1 ⟨rfl, hb1⟩
    go_wp2_with fail
    refine (new_any 5000 w1 (by omega)).mono ?_
    rintro e w2 ⟨D, F, rfl, hd, hF, hb2⟩
    have HD := Lib.hid hd
    have HB2 := Lib.hid (hb1.trans (hb2.mono hb1.size))
    have HF := Lib.hid (fun k hk => Nat.le_trans hb1.size (hF k hk))
    have HR2 := Lib.hid (h.below HB2.out)
    have HSZ2 := Lib.hid HB2.out.size
    clear hd hb1 hb2 hF
    go_wp2_with (at_builtin; go_must (refine wpList_app _ rfl (.tmp 26) (.tmp 27) _ rfl w2.heap.size w.heap.size _ i0 Try.underlying32 HI.out HZ0.out HZ1.out HZ2.out _ [] (Own.nil _ _ _) rfl _ _ _ l HR2.out rfl ?_ (Nat.le_refl _) ?_))
    · have := HL.out; simp; omega
    intro v w3 hown hg hat
    have hown : Own w3 w2.heap.size 5 v l := hown
    have hb3 : Below w2.heap.size w2 w3 := below_own (Own.nil w2 w2.heap.size 5) (Nat.le_refl _) hg
    have HD3 := Lib.hid (HD.out.below hb3)
    have hnF : ∀ k, v.ownBlock = some k → ¬ F k := fun k hk hF => by have := (hown.lt k hk).1; have := HD.out.foot hF; omega
    obtain ⟨A1, c1, hv, hrd1⟩ := hown.open_
    have hnn : l.length = n := HN.out.symm
    rw [hnn] at hv hrd1
    have hc1 := hrd1.cap; have hc1m := hrd1.max
    subst hv
    have HOWN := Lib.hid hown; have HNF := Lib.hid hnF; have HRD := Lib.hid hrd1
    have HB3 := Lib.hid (HB2.out.trans (hb3.mono HSZ2.out))
    clear hown hg hat hb3 hnF hrd1 hnn HD
    go_wp2_with fail
    refine (append_any D _ F (St.new 5000) nmA _ n c1 l _ HD3.out (by decide) HRD.out (Nat.le_refl _) (by decide)).mono ?_
    rintro e w4 hdid
    rw [kp1 l HL.out] at hdid
    obtain ⟨rfl, F4, hd4, ht4, hs4⟩ := hdid
    have HOWN4 := Lib.hid (HOWN.out.turned ht4 HNF.out)
    have HNF4 := Lib.hid (show ∀ k, (Value.slice A1 n c1).ownBlock = some k → ¬ F4 k from fun k hk hF => (hs4 k hF).elim (HNF.out k hk) (fun h => by have := (HOWN.out.lt k hk).2; omega))
    have HF4 := Lib.hid (show ∀ k, F4 k → w.heap.size ≤ k from fun k hk => (hs4 k hk).elim (HF.out k) (fun h => Nat.le_trans HB3.out.size h))
    have HB4 := Lib.hid (HB3.out.trans (ht4.below HB3.out.size HF.out))
    have HD4 := Lib.hid hd4
    clear hd4 ht4 hs4 HD3 HOWN HNF HF HRD
    go_wp2_with fail
    refine (sync_any D F4 (kp l 0 1) nmA _ HD4.out (by decide) (show 1 + 1 < 1099511627776 by omega)).mono ?_
    rintro e w5 hdid
    rw [kp2] at hdid
    obtain ⟨rfl, F5, hd5, ht5, hs5⟩ := hdid
    have HOWN5 := Lib.hid (HOWN4.out.turned ht5 HNF4.out)
    have HNF5 := Lib.hid (show ∀ k, (Value.slice A1 n c1).ownBlock = some k → ¬ F5 k from fun k hk hF => (hs5 k hF).elim (HNF4.out k hk) (fun h => by have := (HOWN4.out.lt k hk).2; omega))
    have HF5 := Lib.hid (show ∀ k, F5 k → w.heap.size ≤ k from fun k hk => (hs5 k hk).elim (HF4.out k) (fun h => Nat.le_trans HB4.out.size h))
    have HB5 := Lib.hid (HB4.out.trans (ht5.below HB4.out.size HF4.out))
    have HD5 := Lib.hid hd5
    clear hd5 ht5 hs5 HD4 HOWN4 HNF4 HF4
    obtain ⟨A1', c1', hv', hrd5⟩ := HOWN5.out.open_
    injection hv' with e1 e2 e3
    subst e1 e3
    rw [HN.out.symm] at hrd5
    have HRD5 := Lib.hid hrd5
    clear hrd5 e2
    go_wp2_with fail
    refine (append_any D _ F5 (kp l l.length 2) nmA _ n c1 l _ HD5.out (by decide) HRD5.out (Nat.le_refl _) (show 2 + 1 < 1099511627776 by omega)).mono ?_
    rintro e w6 hdid
    rw [kp3 l HL.out] at hdid
    obtain ⟨rfl, F6, hd6, ht6, hs6⟩ := hdid
    have HOWN6 := Lib.hid (HOWN5.out.turned ht6 HNF5.out)
    have HNF6 := Lib.hid (show ∀ k, (Value.slice A1 n c1).ownBlock = some k → ¬ F6 k from fun k hk hF => (hs6 k hF).elim (HNF5.out k hk) (fun h => by have := (HOWN5.out.lt k hk).2; omega))
    have HF6 := Lib.hid (show ∀ k, F6 k → w.heap.size ≤ k from fun k hk => (hs6 k hk).elim (HF5.out k) (fun h => Nat.le_trans HB5.out.size h))
    have HB6 := Lib.hid (HB5.out.trans (ht6.below HB5.out.size HF5.out))
    have HD6 := Lib.hid hd6
    clear hd6 ht6 hs6 HD5 HOWN5 HNF5 HF5 HRD5
    have HBS0 := Lib.hid (show Beside w F6 D (kp (l ++ l) l.length 3) w2.heap.size n (.slice A1 n c1) w6 from ⟨⟨l, HN.out.symm, HOWN6.out⟩, HD6.out, HNF6.out, HB6.out⟩)
    clear HOWN6 HD6 HNF6 HB6 HB2 HR2 HB3 HB4 HB5
    try clear hown
    go_wp2_with fail
    go_loopw [8] (fun p wr => ∃ i : Nat, p = .int .i64 i ∧ i ≤ n ∧ Hid (Beside w F6 D (kp (l ++ l) l.length 3) w2.heap.size n (.slice A1 n c1) wr)) (fun p _ => n - (intOf p).toNat)
    case atStart => exact ⟨0, rfl, Nat.zero_le _, HBS0⟩
    case round =>
      obtain ⟨i, rfl, hi, HBS⟩ := hrel
      by_cases hlt : i < n
      · obtain ⟨⟨l', hl', ho⟩, hd, hnf, hb⟩ := HBS.out
        obtain ⟨g, cc, hv, _, _, _, _, hcell, hfree⟩ := ho.form (by omega)
        injection hv with e1 e2 e3
        subst e1
        have hci := hcell i (by omega)
        have hfi := hfree i
        obtain ⟨bb, hxor⟩ : ∃ bb : UInt8, bits BinOp.xor IntKind.u8 ((l'[i]?.getD 0).toNat : Int) 1 = (bb.toNat : Int) := ⟨_, xor_one _⟩
        have HST := Lib.hid (Beside.step (i := i) HSZ2.out hl' ho hd hnf hb bb)
        generalize l'[i]?.getD 0 = xb at *
        clear hcell hfree ho hd hnf hb e2 e3
        go_wp2
        go_roundw
        case rel => exact ⟨i + 1, by go_num, by omega, HST⟩
        case measure => simp [intOf]; omega
      · rename World => wa
        obtain ⟨-, hda, -, hba⟩ := HBS.out
        have HDA := Lib.hid hda; have HBA := Lib.hid hba
        have hrx := read_any D F6 (kp (l ++ l) l.length 3) nmA wa hda (by decide)
        rw [kp4] at hrx
        have HRDX := Lib.hid hrx
        clear hda hba hrx
        go_wp2_with fail
        refine HRDX.out.mono ?_
        rintro e w7 ⟨q, rfl, hq, hb7, hd7⟩
        have hq : Own w7 wa.heap.size 5 q (l ++ l) := hq
        have hnq : ∀ k, q.ownBlock = some k → ¬ F6 k := fun k hk hF => by have := (hq.lt k hk).1; have := HDA.out.foot hF; omega
        obtain ⟨A2, c2, hv2, hrd2⟩ := hq.open_
        have hc2 := hrd2.cap; have hc2m := hrd2.max
        generalize hnn : (l ++ l).length = n2 at *
        subst hv2
        have HBS7 := Lib.hid (show Beside w F6 D (kp (l ++ l) l.length 3) wa.heap.size n2 (.slice A2 n2 c2) w7 from ⟨⟨l ++ l, hnn, hq⟩, hd7, hnq, HBA.out.trans (hb7.mono HBA.out.size)⟩)
        have HNN := Lib.hid hnn
        have HSZA := Lib.hid HBA.out.size
        clear hq hb7 hd7 hnq hrd2 hnn HRDX HBS HBS0
        go_wp2_with fail
        go_loopw [11] (fun p wr => ∃ i : Nat, p = .int .i64 i ∧ i ≤ n2 ∧ Hid (Beside w F6 D (kp (l ++ l) l.length 3) wa.heap.size n2 (.slice A2 n2 c2) wr)) (fun p _ => n2 - (intOf p).toNat)
        case atStart => exact ⟨0, rfl, Nat.zero_le _, HBS7⟩
        case round =>
          obtain ⟨i2, rfl, hi2, HBS2⟩ := hrel
          by_cases hlt2 : i2 < n2
          · obtain ⟨⟨l', hl', ho⟩, hd, hnf, hb⟩ := HBS2.out
            obtain ⟨g, cc, hv, _, _, _, _, hcell, hfree⟩ := ho.form (by omega)
            injection hv with e1 e2 e3
            subst e1
            have hci := hcell i2 (by omega)
            have hfi := hfree i2
            obtain ⟨bb, hxor⟩ : ∃ bb : UInt8, bits BinOp.xor IntKind.u8 ((l'[i2]?.getD 0).toNat : Int) 1 = (bb.toNat : Int) := ⟨_, xor_one _⟩
            have HST := Lib.hid (Beside.step (i := i2) HSZA.out hl' ho hd hnf hb bb)
            generalize l'[i2]?.getD 0 = xb at *
            clear hcell hfree ho hd hnf hb e2 e3
            go_wp2
            go_roundw
            case rel => exact ⟨i2 + 1, by go_num, by omega, HST⟩
            case measure => simp [intOf]; omega
          · rename World => wb
            obtain ⟨-, hdb, -, hbb⟩ := HBS2.out
            have HBB := Lib.hid hbb
            have hrx := read_any D F6 (kp (l ++ l) l.length 3) nmA wb hdb (by decide)
            rw [kp4] at hrx
            have HRDX := Lib.hid hrx
            clear hdb hbb hrx
            go_wp2_with fail
            refine HRDX.out.mono ?_
            rintro e w8 ⟨r, rfl, hr, hb8, hd8⟩
            have hr : Own w8 wb.heap.size 5 r (l ++ l) := hr
            obtain ⟨A3, c3, hv3, hrd3⟩ := hr.open_
            have hb8' := HBB.out.trans (hb8.mono HBB.out.size)
            have hs1 := run_str (P := Try.prog) w8 _ 32 9 5 Try.underlying32 Try.underlying5 Try.underlying9 _ _ _ _ hrd3
            have hs2 := run_str (P := Try.prog) w8 _ 32 9 5 Try.underlying32 Try.underlying5 Try.underlying9 _ _ _ _ (h.below hb8')
            have hadd : (⟨l.toArray⟩ : ByteArray) ++ (⟨l.toArray⟩ : ByteArray) = ⟨(l ++ l).toArray⟩ := by
              apply ByteArray.ext
              simp
            have hsz : (⟨l.toArray⟩ : ByteArray).size ≤ 1000 := by have := HL.out; show l.toArray.size ≤ 1000; simpa using this
            have HD8 := Lib.hid hd8; have HB8 := Lib.hid hb8'
            rw [HNN.out] at hv3 hs1
            subst hv3
            generalize (⟨(l ++ l).toArray⟩ : ByteArray) = S2 at *
            generalize (⟨l.toArray⟩ : ByteArray) = S1 at *
            have hsz2 : ¬ 9223372036854775807 < S1.size + S1.size := by omega
            clear hr hb8 hd8 hrd3 hb8' HRDX
            go_wp2_with fail
            refine (restart_any D (w8.heap.size + 1) F6 (kp (l ++ l) l.length 3) _ 1 1 [keep] _ (HD8.out.alloc _) (rdv_one w8 3 (.int .i64 keep)) (by simp) (fun a ha hk => by injection ha with ha; subst ha; exact absurd (HD8.out.foot hk) (by simp)) (by intro k hk; simp only [List.mem_singleton] at hk; subst hk; exact ⟨hk1, hk2⟩)).mono ?_
            rintro e w9 hdid
            obtain ⟨rfl, F9, hd9, hF9, hb9⟩ := (hdid.from_ ((Turned.refl F6 w8).alloc _)).step HF6.out HB8.out
            have hsu := sure_any D F9 (restarted (kp (l ++ l) l.length 3) [keep]) nmA w9 hd9 (by decide)
            rw [kp5] at hsu
            have hle := (left_le (n := (l ++ l).length) (sure := l.length) (keep := keep) (by simp)).1
            have HSU := Lib.hid hsu; have HB9 := Lib.hid hb9
            rw [← HN.out] at hle
            have hmm : left (l ++ l).length l.length keep ≤ 2000 := by
              have := (left_le (n := (l ++ l).length) (sure := l.length) (keep := keep) (by simp)).2
              have := HL.out
              simp at *; omega
            clear hdid hd9 hF9 hb9 hsu hs1 hs2
            rw [← HN.out] at hmm HSU
            generalize left (l ++ l).length n keep = mm at *
            go_wp2_with fail
            refine HSU.out.mono ?_
            rintro e w10 ⟨rfl, rfl⟩
            go_wp2
            go_ret
            exact ⟨rfl, HB9.out⟩
end Go.Proofs.Ytojdejdnfkgcdaa
