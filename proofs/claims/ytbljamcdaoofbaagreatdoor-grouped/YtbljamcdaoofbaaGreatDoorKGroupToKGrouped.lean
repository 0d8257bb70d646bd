/- Texts KGroup, KGrouped, joined. -/
import Derived.Test.YtbljamcdaoofbaaGreatDoorKWholeToKPartV
import Derived.Test.YtbljamcdaoofbaaGreatDoorPMAllToKMsr
/- What the queries of Grouped come to. -/
namespace Go.Proofs.YtbljamcdaoofbaaGreatDoor
open Go.RowKit

set_option maxHeartbeats 4000000 in
theorem p_by {kind m d : List UInt8} {n : Nat} (hk : kind ∈ kinds) (hm : m ∈ names4) (hd : Dig d n) : (parseL (qBy kind m d)).2 = (true, ⟨[evM], [], kind, n, m⟩) := by
  obtain ⟨k1, k2, k3, -⟩ := kind_ok hk
  obtain ⟨m1, m2, -⟩ := names_ok hm
  have ht : TokR (qBy kind m d) 0 _ := TokR.word k1 k2 (fun c hc => by cases hc; decide) (TokR.mark (by decide) (TokR.all (TokR.mark (by decide) (TokR.num hd.ne hd.dig (fun c hc => by cases hc; decide) (TokR.mark (by decide) (TokR.mark (by decide) (TokR.word (by decide) (by decide) (fun c hc => by cases hc; decide) (TokR.blank (TokR.word m1 m2 (fun c hc => by cases hc) (TokR.fin _))))))))))
  rw [ht.parse]
  simp only [names4, List.mem_cons, List.not_mem_nil, or_false] at hm
  rcases hm with rfl | rfl | rfl | rfl <;>
    exact meas_of (j := 7) (e := 13) rfl k3 rfl rfl rfl rfl hd.val hd.lo (by have := hd.hi; omega) rfl rfl rfl rfl

set_option maxHeartbeats 4000000 in
theorem p_byB {kind m d : List UInt8} {n : Nat} (hk : kind ∈ kinds) (hm : m ∈ names4) (hd : Dig d n) : (parseL (qByB kind m d)).2 = (true, ⟨[evM], [], kind, n, m⟩) := by
  obtain ⟨k1, k2, k3, -⟩ := kind_ok hk
  obtain ⟨m1, m2, -⟩ := names_ok hm
  have ht : TokR (qByB kind m d) 0 _ := TokR.word k1 k2 (fun c hc => by cases hc; decide) (TokR.mark (by decide) (TokR.all (TokR.mark (by decide) (TokR.num hd.ne hd.dig (fun c hc => by cases hc; decide) (TokR.mark (by decide) (TokR.mark (by decide) (TokR.blank (TokR.word (by decide) (by decide) (fun c hc => by cases hc; decide) (TokR.blank (TokR.word m1 m2 (fun c hc => by cases hc) (TokR.fin _)))))))))))
  rw [ht.parse]
  simp only [names4, List.mem_cons, List.not_mem_nil, or_false] at hm
  rcases hm with rfl | rfl | rfl | rfl <;>
    exact meas_of (j := 7) (e := 13) rfl k3 rfl rfl rfl rfl hd.val hd.lo (by have := hd.hi; omega) rfl rfl rfl rfl

theorem perm_by (f : Rw → List UInt8) (ks : List (List UInt8)) : ∀ (T : List Rw), ks.Nodup → (∀ r ∈ T, f r ∈ ks) → T.Perm (ks.flatMap (fun k => T.filter (fun r => f r == k))) := by
  induction ks with
  | nil =>
    intro T _ h
    cases T with
    | nil => exact .refl _
    | cons r T => exact absurd (h r List.mem_cons_self) (by simp)
  | cons k ks ih =>
    intro T hnd h
    obtain ⟨hk, hnd⟩ := List.nodup_cons.1 hnd
    have h1 := ih (T.filter (fun r => !(f r == k))) hnd (fun r hr => by
      have hr' := List.mem_filter.1 hr
      rcases List.mem_cons.1 (h r hr'.1) with e | e
      · have := hr'.2
        simp [e] at this
      · exact e)
    have h2 : ks.flatMap (fun k' => (T.filter (fun r => !(f r == k))).filter (fun r => f r == k')) = ks.flatMap (fun k' => T.filter (fun r => f r == k')) := by
      rw [List.flatMap_def, List.flatMap_def]
      congr 1
      refine List.map_congr_left fun k' hk' => ?_
      rw [List.filter_filter]
      refine List.filter_congr fun r _ => ?_
      by_cases e : f r = k'
      · have hne : ¬ k' = k := fun e2 => hk (by rw [← e2]; exact hk')
        simp [e, hne]
      · simp [e]
    rw [h2] at h1
    rw [List.flatMap_cons]
    exact (List.filter_append_perm (fun r : Rw => f r == k) T).symm.trans (h1.append_left _)

theorem bytes_flat (ks : List (List UInt8)) (g : List UInt8 → List Rw) : bytesL (ks.flatMap g) = (ks.map (fun k => bytesL (g k))).sum := by
  induction ks with
  | nil => rfl
  | cons k ks ih =>
    rw [List.flatMap_cons, List.map_cons, List.sum_cons, ← ih]
    unfold bytesL
    rw [List.map_append, List.sum_append]

theorem key_vals : names4.all (fun m => five.all (fun lab => ([] :: vals5).contains (valueL m (cutL 44 lab)))) = true := by kernel_rfl
theorem key_val {m lab : List UInt8} (hm : m ∈ names4) (hl : lab ∈ five) : valueL m (cutL 44 lab) = [] ∨ valueL m (cutL 44 lab) ∈ vals5 := by
  have h1 := List.all_eq_true.1 (List.all_eq_true.1 key_vals m hm) lab hl
  rw [List.contains_iff_mem, List.mem_cons] at h1
  exact h1

/-- the groups of Grouped: keys, counts, bytes -/
structure Grps (T : List Rw) (m : List UInt8) (K : List (List UInt8)) : Prop where
  ris : Ris K
  pos : ∀ k ∈ K, 0 < (grpL m T k).length
  cnt : (K.map (fun k => (grpL m T k).length)).sum = T.length
  byt : (K.map (fun k => bytesL (grpL m T k))).sum = bytesL T

theorem Grps.of (T : List Rw) (m : List UInt8) : Grps T m (keysL m T) := by
  obtain ⟨h1, h2⟩ := keysL_ris m T
  have hp := perm_by (keyL m) (keysL m T) T (ris_nodup h1) (fun r hr => (h2 _).2 ⟨r, hr, rfl⟩)
  refine ⟨h1, fun k hk => ?_, ?_, ?_⟩
  · obtain ⟨r, hr, e⟩ := (h2 k).1 hk
    exact List.length_pos_iff_exists_mem.2 ⟨r, List.mem_filter.2 ⟨hr, by simp [e]⟩⟩
  · have := hp.length_eq
    rw [List.length_flatMap] at this
    exact this.symm
  · have := bytes_perm hp
    rw [bytes_flat] at this
    exact this.symm

/-- what the measures of Grouped tell -/
theorem grouped_vals {L : List Rw} {m d : List UInt8} {n : Nat} {at_ : Int} (h5 : ∀ r ∈ L, r.1 ∈ five) (hs : ∀ r ∈ L, r.2.2.length ≤ 40) (hL : L.length ≤ 300) (hd : Dig d n) (h1 : 0 ≤ at_) (h2 : at_ ≤ 1000000) (hm : m ∈ names4) :
    ∃ T K, Grps T m K ∧ T.length = (L.filter (inW (at_ - n + 1) (at_ + 1))).length ∧ T.length ≤ 300 ∧ bytesL T ≤ 12000 ∧ OneQ (qAll countT d) at_ L T.length ∧ OneQ (qAll bytesT d) at_ L (bytesL T) ∧
      (measE (qByB countT m d) at_ = (0, 0) ∧ (qByB countT m d).length ≤ 200 ∧ measA (qByB countT m d) at_ L = K.map (fun k => (k, fB (grpL m T k).length 1))) ∧
      (measE (qBy bytesT m d) at_ = (0, 0) ∧ (qBy bytesT m d).length ≤ 200 ∧ measA (qBy bytesT m d) at_ L = K.map (fun k => (k, fB (bytesL (grpL m T k)) 1))) ∧
      (∀ k ∈ K, k ≠ [] → k ∈ vals5 ∧ OneQ (qEq m k d) at_ L (grpL m T k).length) ∧ (∀ k ∈ K, k.length ≤ 3) ∧ K.length ≤ 300 := by
  have hdl := hd.len
  have hml := (names_ok hm).2.2
  have hW5 : ∀ r ∈ L.filter (inW (at_ - n + 1) (at_ + 1)), r.1 ∈ five := fun r hr => h5 r (List.mem_filter.1 hr).1
  have kc : countT ∈ kinds := by simp [kinds]
  have kb : bytesT ∈ kinds := by simp [kinds]
  have hev : (L.filter (inW (at_ - n + 1) (at_ + 1))).filter (fun r => asksB [evM] [] r.1 r.2.2) = L.filter (inW (at_ - n + 1) (at_ + 1)) := List.filter_eq_self.2 fun r hr => by simp [asksB, ev_ok (hW5 r hr)]
  have hpm := ask_w [evM] [] [] [] n at_ L
  rw [hev] at hpm
  have hTe : ∀ kind by_, askQ ⟨[evM], [], kind, n, by_⟩ at_ L = askQ ⟨[evM], [], [], n, []⟩ at_ L := fun _ _ => rfl
  generalize askQ ⟨[evM], [], [], n, []⟩ at_ L = T at *
  have hT3 : T.length ≤ 300 := by rw [hpm.length_eq]; exact Nat.le_trans (List.length_filter_le _ _) hL
  have hTL : ∀ r ∈ T, r ∈ L := fun r hr => (List.mem_filter.1 (hpm.mem_iff.1 hr)).1
  have hTb : bytesL T ≤ 12000 := by
    have := bytesL_le T (fun r hr => hs r (hTL r hr))
    omega
  have la : ∀ {kind : List UInt8}, kind ∈ kinds → (qAll kind d).length ≤ 200 ∧ (qBy kind m d).length ≤ 200 ∧ (qByB kind m d).length ≤ 200 := by
    intro kind hk
    have := (kind_ok hk).2.2.2
    refine ⟨?_, ?_, ?_⟩
    · simp [qAll, allQ, tailQ, noneT]; omega
    · simp [qBy, allQ, noneT]; omega
    · simp [qByB, allQ, noneT]; omega
  have hmne : m ≠ [] := (names_ok hm).1
  have hkl : (keysL m T).length ≤ 300 := by
    have := keysL_len m T T.length (Nat.le_refl _)
    rw [List.take_length] at this
    omega
  have hk5 : ∀ k ∈ keysL m T, k = [] ∨ k ∈ vals5 := by
    intro k hk
    obtain ⟨r, hr, e⟩ := ((keysL_ris m T).2 k).1 hk
    rw [← e]
    unfold keyL
    rw [if_neg hmne]
    exact key_val hm (h5 r (hTL r hr))
  have e1 := measE_ok (q := ⟨[evM], [], countT, n, m⟩) (la kc).2.2 (p_byB kc hm hd) (show countT ≠ [] by decide) h1 h2
  have e2 := measE_ok (q := ⟨[evM], [], bytesT, n, m⟩) (la kb).2.1 (p_by kb hm hd) (show bytesT ≠ [] by decide) h1 h2
  refine ⟨T, keysL m T, Grps.of T m, hpm.length_eq, hT3, hTb, ?_, ?_, ⟨e1, (la kc).2.2, ?_⟩, ⟨e2, (la kb).2.1, ?_⟩, ?_, ?_, hkl⟩
  · have := cnt_q (la kc).1 (p_all kc hd) h1 h2 hL hev
    rw [← hpm.length_eq] at this
    exact this
  · have := byt_q (la kb).1 (p_all kb hd) h1 h2 hL hs hev
    rw [← bytes_perm hpm] at this
    exact this
  · rw [measA_ask e1, p_byB kc hm hd]
    simp only
    rw [hTe]
    unfold smpsL
    exact filterMap_all fun k _ => by simp [grpS, smpS]
  · rw [measA_ask e2, p_by kb hm hd]
    simp only
    rw [hTe]
    unfold smpsL
    have n1 : bytesT ≠ countT := by decide
    have n2 : bytesT ≠ rateT := by decide
    exact filterMap_all fun k _ => by simp [grpS, smpS, n1, n2]
  · intro k hk hne
    have hkv := (hk5 k hk).resolve_left hne
    have hvl := (vals_ok hkv).2
    refine ⟨hkv, ?_⟩
    have l1 : (qEq m k d).length ≤ 200 := by simp [qEq, tailQ, countT]; omega
    have := cnt_q l1 (p_eq hm hkv hd) h1 h2 hL rfl
    have e : ((L.filter (inW (at_ - n + 1) (at_ + 1))).filter (fun r => asksB [⟨m, k, false⟩] [] r.1 r.2.2)).length = (grpL m T k).length := by
      unfold grpL
      rw [(hpm.filter _).length_eq]
      congr 1
      refine List.filter_congr fun r hr => ?_
      unfold keyL
      rw [if_neg hmne]
      cases hh : (valueL m (cutL 44 r.1) == k) <;> simp [asksB, okM, hh]
    rw [e] at this
    exact this
  · intro k hk
    rcases hk5 k hk with rfl | h
    · simp
    · exact (vals_ok h).2

end Go.Proofs.YtbljamcdaoofbaaGreatDoor

/- loamkeep's Grouped. -/
namespace Go.Proofs.YtbljamcdaoofbaaGreatDoor
open Go.RowKit

theorem oneq_anyG {w0 w : World} {F : Nat → Prop} {p : Nat} {S : List Strm} {L : List Rw} {l : List UInt8} {at_ : Int} {v : Nat} (h : KeepAt w0 w F p S L) (hg : Glob w0) (hq : OneQ l at_ L v) :
    Calls Tryz.prog 27 #[.pointer (some ⟨p, 0, none⟩), .string ⟨l.toArray⟩, .int .i64 at_] w (OneP w v) := one_any l at_ v h hq.len hg hq.err hq.ans

/-- the texts of the queries, put together -/
structure CatsG (d m R : List UInt8) : Prop where
  qa : (⟨#[99, 111, 117, 110, 116, 40, 123, 110, 111, 110, 101, 32, 33, 61, 32, 34, 120, 34, 125]⟩ : ByteArray) ++ ⟨R.toArray⟩ = ⟨(qAll countT d).toArray⟩
  qb : (⟨#[98, 121, 116, 101, 115, 40, 123, 110, 111, 110, 101, 32, 33, 61, 32, 34, 120, 34, 125]⟩ : ByteArray) ++ ⟨R.toArray⟩ = ⟨(qAll bytesT d).toArray⟩
  ql : (⟨#[99, 111, 117, 110, 116, 40, 123, 110, 111, 110, 101, 32, 33, 61, 32, 34, 120, 34, 125]⟩ : ByteArray) ++ ⟨R.toArray⟩ ++ (⟨#[32, 98, 121, 32]⟩ : ByteArray) ++ ⟨m.toArray⟩ = ⟨(qByB countT m d).toArray⟩
  qk : (⟨#[98, 121, 116, 101, 115, 40, 123, 110, 111, 110, 101, 32, 33, 61, 32, 34, 120, 34, 125]⟩ : ByteArray) ++ ⟨R.toArray⟩ ++ (⟨#[98, 121, 32]⟩ : ByteArray) ++ ⟨m.toArray⟩ = ⟨(qBy bytesT m d).toArray⟩
  qe : ∀ key : List UInt8, (⟨#[99, 111, 117, 110, 116, 40, 123]⟩ : ByteArray) ++ ⟨m.toArray⟩ ++ (⟨#[61, 34]⟩ : ByteArray) ++ ⟨key.toArray⟩ ++ (⟨#[34, 125]⟩ : ByteArray) ++ ⟨R.toArray⟩ = ⟨(qEq m key d).toArray⟩

theorem catsG (d m : List UInt8) : CatsG d m (tailQ d) := by
  constructor
  all_goals
    intros
    apply ByteArray.ext
    simp [ByteArray.data_append, qAll, qBy, qByB, qEq, allQ, tailQ, noneT, countT, bytesT]

theorem cellsMs_atK (R : List Smp) (k : Nat) (h : k < R.length) : (R.flatMap cellsMs)[k * 2]? = some (SV R[k].1) ∧ (R.flatMap cellsMs)[k * 2 + 1]? = some (.int .i64 R[k].2) := by
  induction R generalizing k with
  | nil => simp at h
  | cons x S ih =>
    rw [List.flatMap_cons]
    cases k with
    | zero => simp [cellsMs]
    | succ k =>
      have := ih k (by simpa using h)
      simp only [cellsMs, List.cons_append, List.nil_append, Nat.add_mul, Nat.one_mul, List.getElem?_cons_succ, List.getElem_cons_succ] at this ⊢
      exact this

/-- the sum from a place on -/
def sumD (f : List UInt8 → Nat) (K : List (List UInt8)) (i : Nat) : Nat := ((K.drop i).map f).sum
theorem sumD_at (f : List UInt8 → Nat) (K : List (List UInt8)) (i : Nat) (h : i < K.length) : sumD f K i = f K[i] + sumD f K (i + 1) := by
  unfold sumD
  rw [List.drop_eq_getElem_cons h, List.map_cons, List.sum_cons]
theorem sumD_end (f : List UInt8 → Nat) (K : List (List UInt8)) (i : Nat) (h : K.length ≤ i) : sumD f K i = 0 := by
  unfold sumD
  rw [List.drop_of_length_le h]
  rfl

/-- a list of samples that can be read -/
def MsOf (w : World) (v : Value) (R : List Smp) : Prop := w.ownsRow 0 57 2 v R.length (R.flatMap cellsMs)
theorem MsOf.below {w w' : World} {v : Value} {R : List Smp} (h : MsOf w v R) (hb : Below w.heap.size w w') : MsOf w' v R := ownsRow_below h hb

set_option maxRecDepth 10000 in
set_option maxHeartbeats 8000000 in
theorem groupedK_any {w : World} {ao : Option Addr} {n0 cap : Nat} {c1 c2 c3 : Int} (hr : RawAt w ao n0) (hg : Glob w) (k1 : -9223372036854775808 ≤ c1 ∧ c1 ≤ 9223372036854775807) (k2 : -9223372036854775808 ≤ c2 ∧ c2 ≤ 9223372036854775807) (k3 : -9223372036854775808 ≤ c3 ∧ c3 ≤ 9223372036854775807) :
    Calls Tryz.prog 10 #[.slice ao n0 cap, .int .i64 c1, .int .i64 c2, .int .i64 c3] w fun e w' => e = .returned (.bool true) ∧ Below w.heap.size w w' := by
  have HR := hide hr
  have HG := hide hg
  clear hr hg
  have p2 := fun W => kpick_any c1 150 W k1.1 k1.2 (by omega) (by omega)
  have p3 := fun W => kpick_any c2 150 W k2.1 k2.2 (by omega) (by omega)
  have p4 := fun W => kpick_any c3 4 W k3.1 k3.2 (by omega) (by omega)
  have l2 := pickN_lt c1 (n := 150) (by omega)
  have l3 := pickN_lt c2 (n := 150) (by omega)
  have l4 := pickN_lt c3 (n := 4) (by omega)
  generalize pickN c1 150 = t at *
  generalize pickN c2 150 = n1 at *
  generalize pickN c3 4 = km at *
  go_enter Tryz.func10, Tryz.ntmps10
  go_wp2_with fail
  refine (measuring_any (unhide HG)).mono ?_
  rintro e w1 ⟨rfl, hb1⟩
  have hfi := filled_any (w := w1) (cap := cap) (show RawAt w1 ao n0 from fun i hi => by
    obtain ⟨sb, so, h1, h2, a, b, c, h3, h4, h5, h6⟩ := unhide HR i hi
    exact ⟨sb, so, h1, Nat.lt_of_lt_of_le h2 hb1.size, a, b, c, (hb1.cell (p := ⟨sb, _, none⟩) h2).trans h3, (hb1.cell (p := ⟨sb, _, none⟩) h2).trans h4, (hb1.cell (p := ⟨sb, _, none⟩) h2).trans h5, h6⟩)
  have HG1 := hide ((unhide HG).below hb1)
  have HB1 := hide hb1
  clear hb1 HR
  go_wp2_with fail
  refine hfi.mono ?_
  rintro e w2 ⟨p, F, S, L, tt, v, kk, rfl, hk40, hF⟩
  clear hfi
  have hL40 : L.length ≤ 40 := by rw [hF.len]; exact hk40
  have HL5 := hide hF.fill.lab5
  have HSH := hide hF.fill.short
  have HK2 := hide hF.keep
  have HV2 := hide (show w2.ownsRow 0 38 3 v L.length (L.flatMap cellsR) from ownsRow_base hF.row (Nat.zero_le _))
  clear hF
  go_wp2_with fail
  refine (p2 _).mono ?_
  rintro e w' ⟨rfl, hww⟩
  rw [hww]
  clear hww w' p2
  go_wp2_with fail
  refine (p3 _).mono ?_
  rintro e w' ⟨rfl, hww⟩
  rw [hww]
  clear hww w' p3
  have hdg := fun W => digits_any (n1 + 1) W (by omega)
  have hd := dig_of (n := n1 + 1) (by omega) (by omega)
  have en : (1 : Int) + (n1 : Int) = ((n1 + 1 : Nat) : Int) := by omega
  have hdl := hd.len
  have HD := hide hd
  have HEN := hide en
  clear hd en
  generalize digL (n1 + 1) = d at *
  go_wp2_with fail
  rw [unhide HEN]
  refine (hdg _).mono ?_
  rintro e w3 ⟨rfl, hb3⟩
  clear hdg
  have HK3 := hide ((unhide HK2).below hb3)
  have HV3 := hide (ownsRow_below (unhide HV2) hb3)
  clear hb3 HK2 HV2
  have hcR : (⟨#[91]⟩ : ByteArray) ++ ⟨d.toArray⟩ ++ ⟨#[93, 41]⟩ = ⟨(tailQ d).toArray⟩ := by
    apply ByteArray.ext
    simp [ByteArray.data_append, tailQ]
  have hRl : (tailQ d).length ≤ 6 := by simp [tailQ]; omega
  have HCR := hide hcR
  clear hcR
  go_upto_region 8 with fail
  rw [unhide HCR]
  clear HCR
  have hbt := between_any ((t : Int) - ((n1 : Int) + 1) + 1) ((t : Int) + 1) (unhide HV3) (by omega)
  clear HV3
  go_wp2_with fail
  refine hbt.mono ?_
  rintro e w4 ⟨vz, rfl, hownz, hbz⟩
  clear hbt
  have HK4 := hide ((unhide HK3).below hbz)
  obtain ⟨az, cz, rfl, -, -, -, -, -, -⟩ := owns_form hownz
  clear hownz hbz HK3
  have hm4 : names4.getD km [] ∈ names4 := by
    have h : ∀ k, k < 4 → names4.getD k [] ∈ names4 := by decide
    exact h km l4
  have hcm := row_at (w := w4) names4 km l4
  have hbm : Below w4.heap.size w4 (w4.alloc (.cells (names4.map SV).toArray 9)) := (Below.refl _ w4).alloc (Nat.le_refl _) _
  have hkmi : (km : Int) < 4 := by omega
  have HK5 := hide ((unhide HK4).below hbm)
  obtain ⟨-, -, hml⟩ := names_ok hm4
  have HM := hide hm4
  clear hbm HK4 hm4
  generalize names4.getD km [] = m at *
  obtain ⟨T, K, hgr, hTl, hT3, hTb, qa, qb, ql, qk, qe, hkl, hk3⟩ := grouped_vals (at_ := (t : Int)) (unhide HL5) (unhide HSH) (by omega) (unhide HD) (by omega) (by omega) (unhide HM)
  have hcast : ((n1 + 1 : Nat) : Int) = (n1 : Int) + 1 := by omega
  rw [hcast] at hTl
  rw [← hTl]
  have HCAT := hide (catsG d m)
  have HTB := hide hTb
  have HA0 := hide (show sumD (fun k => (grpL m T k).length) K 0 = T.length from hgr.cnt)
  have HB0 := hide (show sumD (fun k => bytesL (grpL m T k)) K 0 = bytesL T from hgr.byt)
  have HPO := hide (show ∀ k ∈ K, 0 < (fun k => (grpL m T k).length) k from hgr.pos)
  have HRI := hide hgr.ris
  have HQA := hide qa
  have HQB := hide qb
  have HQL := hide (show measE (qByB countT m d) t = (0, 0) ∧ (qByB countT m d).length ≤ 200 ∧ measA (qByB countT m d) t L = K.map (fun k => (k, fB ((fun k => (grpL m T k).length) k) 1)) from ql)
  have HQK := hide (show measE (qBy bytesT m d) t = (0, 0) ∧ (qBy bytesT m d).length ≤ 200 ∧ measA (qBy bytesT m d) t L = K.map (fun k => (k, fB ((fun k => bytesL (grpL m T k)) k) 1)) from qk)
  have HQE := hide (show ∀ k ∈ K, k ≠ [] → k ∈ vals5 ∧ OneQ (qEq m k d) t L ((fun k => (grpL m T k).length) k) from qe)
  have HKL := hide hkl
  generalize T.length = tl at *
  generalize bytesL T = tb at *
  clear hgr qa qb ql qk qe hkl hTb hcast hTl
  generalize (fun k => (grpL m T k).length) = cF at *
  generalize (fun k => bytesL (grpL m T k)) = bF at *
  clear T
  go_wp2_with fail
  change Calls _ _ _ (w4.alloc (.cells (names4.map SV).toArray 9)) _
  generalize w4.alloc (.cells (names4.map SV).toArray 9) = w5 at *
  refine (p4 _).mono ?_
  rintro e w' ⟨rfl, hww⟩
  rw [hww]
  clear hww w' p4
  go_upto_region 10 with fail
  clear hcm
  generalize tailQ d = R at *
  have ho := oneq_anyG (unhide HK5) (unhide HG1) (unhide HQA)
  go_wp2_with fail
  rw [(unhide HCAT).qa]
  refine ho.mono ?_
  rintro e w6 ⟨rfl, hb⟩
  clear ho
  have HK6 := hide ((unhide HK5).below hb)
  clear hb HK5 HQA
  have ho := oneq_anyG (unhide HK6) (unhide HG1) (unhide HQB)
  go_wp2_with fail
  rw [(unhide HCAT).qb]
  refine ho.mono ?_
  rintro e w7 ⟨rfl, hb⟩
  clear ho
  have HK7 := hide ((unhide HK6).below hb)
  clear hb HK6 HQB
  have hm1 := kmeas_any (qByB countT m d) t (unhide HK7) (by have := (unhide HQL).2.1; omega) (unhide HG1)
  rw [(unhide HQL).1, (unhide HQL).2.2] at hm1
  go_wp2_with fail
  rw [(unhide HCAT).ql]
  refine hm1.mono ?_
  rintro e w8 ⟨v1, rfl, hown1, hb8⟩
  clear hm1
  have HK8 := hide ((unhide HK7).below hb8)
  have HR1 := hide (show MsOf w8 v1 (K.map (fun k => (k, fB (cF k) 1))) from ownsRow_base hown1 (Nat.zero_le _))
  obtain ⟨a1, cp1, rfl, -, -, -, -, -, -⟩ := owns_form hown1
  clear hown1 hb8 HK7 HQL
  have hm2 := kmeas_any (qBy bytesT m d) t (unhide HK8) (by have := (unhide HQK).2.1; omega) (unhide HG1)
  rw [(unhide HQK).1, (unhide HQK).2.2] at hm2
  go_wp2_with fail
  rw [(unhide HCAT).qk]
  refine hm2.mono ?_
  rintro e w9 ⟨v2, rfl, hown2, hb9⟩
  clear hm2
  have HK9 := hide ((unhide HK8).below hb9)
  have HR1' := hide ((unhide HR1).below hb9)
  have HR2 := hide (show MsOf w9 v2 (K.map (fun k => (k, fB (bF k) 1))) from ownsRow_base hown2 (Nat.zero_le _))
  obtain ⟨a2, cp2, rfl, -, -, -, -, -, -⟩ := owns_form hown2
  clear hown2 hb9 HK8 HQK HR1
  simp only [List.length_map] at *
  go_wp2_with fail
  have ha0 : (tl : Int) = ((sumD cF K 0 : Nat) : Int) := by rw [unhide HA0]
  have hb0 : (tb : Int) = ((sumD bF K 0 : Nat) : Int) := by rw [unhide HB0]
  rw [ha0, hb0]
  have hsA : sumD cF K 0 ≤ 300 := by rw [unhide HA0]; exact hT3
  have hsB : sumD bF K 0 ≤ 12000 := by rw [unhide HB0]; exact unhide HTB
  clear ha0 hb0
  rename World => wA
  go_loopw [18, 19, 26, 27, 28, 29] (fun a b i _ _ _ wr => ∃ j : Nat, j ≤ K.length ∧ i = .int .i64 j ∧ a = .int .i64 (sumD cF K j) ∧ b = .int .i64 (sumD bF K j) ∧ sumD cF K j ≤ 300 ∧ sumD bF K j ≤ 12000 ∧ Hid (KeepAt w1 wr F p S L ∧ MsOf wr (.slice a1 K.length cp1) (K.map (fun k => (k, fB (cF k) 1))) ∧ MsOf wr (.slice a2 K.length cp2) (K.map (fun k => (k, fB (bF k) 1))))) (fun _ _ i _ _ _ _ => K.length - (intOf i).toNat)
  case atStart => exact ⟨0, Nat.zero_le _, rfl, rfl, rfl, hsA, hsB, hide ⟨unhide HK9, unhide HR1', unhide HR2⟩⟩
  case round =>
    clear HK9 HR1' HR2 hsA hsB
    obtain ⟨j, hj, rfl, rfl, rfl, hsA, hsB, HI⟩ := hrel
    by_cases hlt : j < K.length
    · have hji : (j : Int) < (K.length : Int) := by omega
      have hm1 := (unhide HI).2.1
      have hm2 := (unhide HI).2.2
      obtain ⟨g1, c1', e1, -, -, -, -, kc1, -⟩ := owns_open hm1 (by simp; omega)
      obtain ⟨g2, c2', e2, -, -, -, -, kc2, -⟩ := owns_open hm2 (by simp; omega)
      simp only [List.length_map, Value.slice.injEq, true_and] at e1 e2
      obtain ⟨rfl, rfl⟩ := e1
      obtain ⟨rfl, rfl⟩ := e2
      obtain ⟨x0, x1⟩ := cellsMs_atK (K.map (fun k => (k, fB (cF k) 1))) j (by simpa using hlt)
      obtain ⟨y0, y1⟩ := cellsMs_atK (K.map (fun k => (k, fB (bF k) 1))) j (by simpa using hlt)
      have d0 := (kc1 (j * 2) (by simp; omega)).trans x0
      have d1 := (kc1 (j * 2 + 1) (by simp; omega)).trans x1
      have f0 := (kc2 (j * 2) (by simp; omega)).trans y0
      have f1 := (kc2 (j * 2 + 1) (by simp; omega)).trans y1
      have hprev : ∀ hp : 0 < j, ∃ pk, wr.cell? ⟨g1, (j - 1) * 2, none⟩ = some (SV pk) ∧ Op.bytesLess pk K[j] = true := fun hp => by
        obtain ⟨z0, -⟩ := cellsMs_atK (K.map (fun k => (k, fB (cF k) 1))) (j - 1) (by simp; omega)
        refine ⟨K[j - 1], ?_, List.pairwise_iff_getElem.1 (unhide HRI) (j - 1) j (by omega) hlt (by omega)⟩
        rw [kc1 ((j - 1) * 2) (by simp; omega), z0]
        simp
      simp only [List.getElem_map] at d0 d1 f0 f1
      have hpos := unhide HPO _ (List.getElem_mem hlt)
      have hkl := unhide HKL _ (List.getElem_mem hlt)
      have sa := sumD_at cF K j hlt
      have sb := sumD_at bF K j hlt
      have HE := hide (unhide HQE _ (List.getElem_mem hlt))
      have HPV := hide hprev
      clear hm1 hm2 kc1 kc2 x0 x1 y0 y1 hprev
      generalize K[j] = key at *
      have kw1 := kwhole_any (cF key) (by omega) wr
      have kw2 := kwhole_any (bF key) (by omega) wr
      generalize fB (cF key) 1 = fb1 at *
      generalize fB (bF key) 1 = fb2 at *
      generalize cF key = cv at *
      generalize bF key = bv at *
      generalize sumD cF K j = sj at *
      generalize sumD bF K j = tj at *
      have hc1 : cv ≤ 300 := by omega
      have hc2 : bv ≤ 12000 := by omega
      have SA := hide sa
      have SB := hide sb
      clear sa sb
      go_wp2_with fail
      refine kw1.mono ?_
      rintro e w' ⟨rfl, hww⟩
      rw [hww]
      clear hww w' kw1
      go_wp2_with fail
      refine kw2.mono ?_
      rintro e w' ⟨rfl, hww⟩
      rw [hww]
      clear hww w' kw2 d1 f1
      have hd1 : decide ((cv : Int) < 1) = false := by rw [decide_eq_false_iff_not]; omega
      have hd2 : decide ((bv : Int) < 0) = false := by rw [decide_eq_false_iff_not]; omega
      by_cases hj0 : 0 < j
      · obtain ⟨pk, hpc, hle⟩ := unhide HPV hj0
        have hpi : (0 : Int) < (j : Int) := by omega
        have hd3 : decide ((0 : Int) < (j : Int)) = true := by simpa using hpi
        have hpt : ((j : Int) - 1).toNat = j - 1 := by omega
        have hpl : (j : Int) - 1 < (K.length : Int) := by omega
        have hp0 : (0 : Int) ≤ (j : Int) - 1 := by omega
        go_upto_region 21 with fail
        go_quiet (fail)
        clear hpc hle hpt hpl hp0 f0 hd1 hd2 hd3 hpi
        by_cases hne : key = []
        · subst hne
          go_wp2_with fail
          go_roundw
          case rel => exact ⟨j + 1, by omega, by go_num, congrArg (Value.int .i64) (by have := unhide SA; omega), congrArg (Value.int .i64) (by have := unhide SB; omega), by have := unhide SA; omega, by have := unhide SB; omega, hide ⟨(unhide HI).1.below (by repeat (first | exact Below.refl _ _ | apply Below.drew | apply Below.drawn)), (unhide HI).2.1, (unhide HI).2.2⟩⟩
          case measure => simp [intOf]; omega
        · have hkb : (key == []) = false := by simpa using hne
          have hoq := (unhide HE hne).2
          have HOQ := hide hoq
          clear hoq
          go_wp2_with fail
          rw [(unhide HCAT).qe key]
          refine (oneq_anyG ((unhide HI).1.below (by repeat (first | exact Below.refl _ _ | apply Below.drew | apply Below.drawn))) (unhide HG1) (unhide HOQ)).mono ?_
          rintro e wq ⟨rfl, hbq⟩
          have hbq' : Below wr.heap.size wr wq := ⟨hbq.os, hbq.tape, hbq.output, hbq.size, hbq.block⟩
          have HIq := hide (show KeepAt w1 wq F p S L ∧ MsOf wq _ (K.map (fun k => (k, fB (cF k) 1))) ∧ MsOf wq _ (K.map (fun k => (k, fB (bF k) 1))) from ⟨((unhide HI).1.below (by repeat (first | exact Below.refl _ _ | apply Below.drew | apply Below.drawn))).below hbq, MsOf.below (unhide HI).2.1 hbq', MsOf.below (unhide HI).2.2 hbq'⟩)
          clear hbq hbq'
          go_wp2_with fail
          go_roundw
          case rel => exact ⟨j + 1, by omega, by go_num, congrArg (Value.int .i64) (by have := unhide SA; omega), congrArg (Value.int .i64) (by have := unhide SB; omega), by have := unhide SA; omega, by have := unhide SB; omega, HIq⟩
          case measure => simp [intOf]; omega
      · have hj1 : j = 0 := by omega
        subst hj1
        go_upto_region 21 with fail
        go_quiet (fail)
        clear f0 hd1 hd2
        by_cases hne : key = []
        · subst hne
          go_wp2_with fail
          go_roundw
          case rel => exact ⟨0 + 1, by omega, by go_num, congrArg (Value.int .i64) (by have := unhide SA; omega), congrArg (Value.int .i64) (by have := unhide SB; omega), by have := unhide SA; omega, by have := unhide SB; omega, hide ⟨(unhide HI).1.below (by repeat (first | exact Below.refl _ _ | apply Below.drew | apply Below.drawn)), (unhide HI).2.1, (unhide HI).2.2⟩⟩
          case measure => simp [intOf]; omega
        · have hkb : (key == []) = false := by simpa using hne
          have hoq := (unhide HE hne).2
          have HOQ := hide hoq
          clear hoq
          go_wp2_with fail
          rw [(unhide HCAT).qe key]
          refine (oneq_anyG ((unhide HI).1.below (by repeat (first | exact Below.refl _ _ | apply Below.drew | apply Below.drawn))) (unhide HG1) (unhide HOQ)).mono ?_
          rintro e wq ⟨rfl, hbq⟩
          have hbq' : Below wr.heap.size wr wq := ⟨hbq.os, hbq.tape, hbq.output, hbq.size, hbq.block⟩
          have HIq := hide (show KeepAt w1 wq F p S L ∧ MsOf wq _ (K.map (fun k => (k, fB (cF k) 1))) ∧ MsOf wq _ (K.map (fun k => (k, fB (bF k) 1))) from ⟨((unhide HI).1.below (by repeat (first | exact Below.refl _ _ | apply Below.drew | apply Below.drawn))).below hbq, MsOf.below (unhide HI).2.1 hbq', MsOf.below (unhide HI).2.2 hbq'⟩)
          clear hbq hbq'
          go_wp2_with fail
          go_roundw
          case rel => exact ⟨0 + 1, by omega, by go_num, congrArg (Value.int .i64) (by have := unhide SA; omega), congrArg (Value.int .i64) (by have := unhide SB; omega), by have := unhide SA; omega, by have := unhide SB; omega, HIq⟩
          case measure => simp [intOf]; omega
    · have hji : ¬ (j : Int) < (K.length : Int) := by omega
      rw [sumD_end cF K j (by omega), sumD_end bF K j (by omega)]
      have HFI := hide ((unhide HB1).trans ((unhide HI).1.bel.mono (unhide HB1).size))
      clear HI
      go_wp2_with fail
      go_ret
      exact ⟨rfl, unhide HFI⟩

end Go.Proofs.YtbljamcdaoofbaaGreatDoor
