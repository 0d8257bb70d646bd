/- loamkeep's Parted. -/
import Derived.Test.YtbljamcdaoofbaaGreatDoorKWholeToKPartV
import Derived.Test.YtbljamcdaoofbaaGreatDoorPMAllToKMsr
namespace Go.Proofs.YtbljamcdaoofbaaGreatDoor
open Go.RowKit

def twelve : List (List UInt8) := [[], [49], [103, 101, 116], [32], [45], [120], [117, 116, 32], [0, 255], [57, 57], [97, 32], [123, 125], [195, 169]]
def partK (c : Int) : List UInt8 := twelve.getD (pickN c 12) []
theorem partK_ok (c : Int) : (∀ y ∈ partK c, y ≠ 34) ∧ (partK c).length ≤ 3 := by
  have h : ∀ k, k < 12 → (∀ y ∈ twelve.getD k [], y ≠ 34) ∧ (twelve.getD k []).length ≤ 3 := by decide
  exact h _ (pickN_lt c (by omega))

set_option maxRecDepth 10000 in
set_option maxHeartbeats 1000000 in
theorem part_any (c : Int) (w : World) (h1 : -9223372036854775808 ≤ c) (h2 : c ≤ 9223372036854775807) :
    Calls Tryz.prog 26 #[.int .i64 c] w fun e w' => e = .returned (SV (partK c)) ∧ Below w.heap.size w w' := by
  have hb := (Below.refl w.heap.size w).alloc (Nat.le_refl _) (.cells (twelve.map SV).toArray 9)
  have hc := row_at (w := w) twelve (pickN c 12) (pickN_lt c (by omega))
  have hlt : (pickN c 12 : Int) < 12 := by have := pickN_lt c (n := 12) (by omega); omega
  have HL := hide (show partK c = twelve.getD (pickN c 12) [] from rfl)
  have hp := fun W => kpick_any c 12 W h1 h2 (by omega) (by omega)
  generalize partK c = lab at *
  generalize pickN c 12 = k at *
  rw [← unhide HL] at hc
  go_enter Tryz.func26, Tryz.ntmps26
  go_upto_region 2 with fail
  change Code.wp _ _ _ _ (w.alloc (.cells (twelve.map SV).toArray 9))
  generalize w.alloc (.cells (twelve.map SV).toArray 9) = W at *
  go_wp2_with fail
  refine (hp _).mono ?_
  rintro e w' ⟨rfl, hww⟩
  rw [hww]
  clear hww w'
  go_wp2_with fail
  go_ret
  exact ⟨rfl, hb⟩

theorem oneq_any {w0 w : World} {F : Nat → Prop} {p : Nat} {S : List Strm} {L : List Rw} {l : List UInt8} {at_ : Int} {v : Nat} (h : KeepAt w0 w F p S L) (hg : Glob w0) (hq : OneQ l at_ L v) :
    Calls Tryz.prog 27 #[.pointer (some ⟨p, 0, none⟩), .string ⟨l.toArray⟩, .int .i64 at_] w (OneP w v) := one_any l at_ v h hq.len hg hq.err hq.ans

/-- the texts of the queries, put together -/
structure Cats (d x m v R P V : List UInt8) : Prop where
  qa : (⟨#[99, 111, 117, 110, 116, 40, 123, 110, 111, 110, 101, 32, 33, 61, 32, 34, 120, 34, 125]⟩ : ByteArray) ++ ⟨R.toArray⟩ = ⟨(qAll countT d).toArray⟩
  qb : (⟨#[99, 111, 117, 110, 116, 40, 123, 110, 111, 110, 101, 32, 33, 61, 32, 34, 120, 34, 125, 32, 124, 61, 32]⟩ : ByteArray) ++ ⟨P.toArray⟩ ++ ⟨R.toArray⟩ = ⟨(qFltB countT 124 x d).toArray⟩
  qc : (⟨#[99, 111, 117, 110, 116, 40, 123, 110, 111, 110, 101, 32, 33, 61, 32, 34, 120, 34, 125, 32, 33, 61, 32]⟩ : ByteArray) ++ ⟨P.toArray⟩ ++ ⟨R.toArray⟩ = ⟨(qFltB countT 33 x d).toArray⟩
  qd : (⟨#[99, 111, 117, 110, 116, 40, 123, 110, 111, 110, 101, 32, 33, 61, 32, 34, 120, 34, 125, 32, 124, 61, 32]⟩ : ByteArray) ++ ⟨P.toArray⟩ ++ (⟨#[32, 33, 61, 32]⟩ : ByteArray) ++ ⟨P.toArray⟩ ++ ⟨R.toArray⟩ = ⟨(qTwo countT x d).toArray⟩
  qe : (⟨#[98, 121, 116, 101, 115, 40, 123, 110, 111, 110, 101, 32, 33, 61, 32, 34, 120, 34, 125]⟩ : ByteArray) ++ ⟨R.toArray⟩ = ⟨(qAll bytesT d).toArray⟩
  qf : (⟨#[98, 121, 116, 101, 115, 40, 123, 110, 111, 110, 101, 32, 33, 61, 32, 34, 120, 34, 125, 124, 61]⟩ : ByteArray) ++ ⟨P.toArray⟩ ++ ⟨R.toArray⟩ = ⟨(qFlt bytesT 124 x d).toArray⟩
  qg : (⟨#[98, 121, 116, 101, 115, 40, 123, 110, 111, 110, 101, 32, 33, 61, 32, 34, 120, 34, 125, 33, 61]⟩ : ByteArray) ++ ⟨P.toArray⟩ ++ ⟨R.toArray⟩ = ⟨(qFlt bytesT 33 x d).toArray⟩
  qh : (⟨#[99, 111, 117, 110, 116, 40, 123]⟩ : ByteArray) ++ ⟨m.toArray⟩ ++ (⟨#[61]⟩ : ByteArray) ++ ⟨V.toArray⟩ ++ (⟨#[125]⟩ : ByteArray) ++ ⟨R.toArray⟩ = ⟨(qEq m v d).toArray⟩
  qi : (⟨#[99, 111, 117, 110, 116, 40, 123]⟩ : ByteArray) ++ ⟨m.toArray⟩ ++ (⟨#[33, 61]⟩ : ByteArray) ++ ⟨V.toArray⟩ ++ (⟨#[125]⟩ : ByteArray) ++ ⟨R.toArray⟩ = ⟨(qNe m v d).toArray⟩
  qj : (⟨#[99, 111, 117, 110, 116, 40, 123]⟩ : ByteArray) ++ ⟨m.toArray⟩ ++ (⟨#[33, 61]⟩ : ByteArray) ++ ⟨V.toArray⟩ ++ (⟨#[44]⟩ : ByteArray) ++ ⟨m.toArray⟩ ++ (⟨#[61]⟩ : ByteArray) ++ ⟨V.toArray⟩ ++ (⟨#[125]⟩ : ByteArray) ++ ⟨R.toArray⟩ = ⟨(qBoth m v d).toArray⟩

theorem cats (d x m v : List UInt8) : Cats d x m v (tailQ d) (34 :: (x ++ [34])) (34 :: (v ++ [34])) := by
  constructor
  all_goals
    apply ByteArray.ext
    simp [ByteArray.data_append, qAll, qFlt, qFltB, qTwo, qEq, qNe, qBoth, allQ, tailQ, noneT, countT, bytesT]

def names3 : List (List UInt8) := [[97, 112, 112], [122, 111, 110, 101], [107, 105, 110, 100]]
def vals4 : List (List UInt8) := [[119, 101, 98], [97], [120], [100, 98]]
def quoted4 : List (List UInt8) := [[34, 119, 101, 98, 34], [34, 97, 34], [34, 120, 34], [34, 100, 98, 34]]
theorem names3_ok : ∀ k, k < 3 → names3.getD k [] ∈ names4 := by decide
theorem vals4_ok : ∀ k, k < 4 → vals4.getD k [] ∈ vals5 ∧ quoted4.getD k [] = 34 :: (vals4.getD k [] ++ [34]) := by decide

theorem tdiv3 (c : Int) (h1 : -9223372036854775808 ≤ c) (h2 : c ≤ 9223372036854775807) : -9223372036854775808 ≤ c.tdiv 3 ∧ c.tdiv 3 ≤ 9223372036854775807 := by
  by_cases h : 0 ≤ c
  · rw [Int.tdiv_eq_ediv_of_nonneg h]
    omega
  · obtain ⟨a, ha⟩ : ∃ a : Int, c = -a := ⟨-c, by omega⟩
    subst ha
    rw [Int.neg_tdiv, Int.tdiv_eq_ediv_of_nonneg (by omega)]
    omega

set_option maxRecDepth 10000 in
set_option maxHeartbeats 8000000 in
theorem partedK_any {w : World} {ao : Option Addr} {n0 cap : Nat} {c1 c2 c3 c4 : Int} (hr : RawAt w ao n0) (hg : Glob w) (k1 : -9223372036854775808 ≤ c1 ∧ c1 ≤ 9223372036854775807) (k2 : -9223372036854775808 ≤ c2 ∧ c2 ≤ 9223372036854775807) (k3 : -9223372036854775808 ≤ c3 ∧ c3 ≤ 9223372036854775807) (k4 : -9223372036854775808 ≤ c4 ∧ c4 ≤ 9223372036854775807) :
    Calls Tryz.prog 9 #[.slice ao n0 cap, .int .i64 c1, .int .i64 c2, .int .i64 c3, .int .i64 c4] w fun e w' => e = .returned (.bool true) ∧ Below w.heap.size w w' := by
  have HR := hide hr
  have HG := hide hg
  clear hr hg
  have p2 := fun W => kpick_any c2 150 W k2.1 k2.2 (by omega) (by omega)
  have p3 := fun W => kpick_any c3 150 W k3.1 k3.2 (by omega) (by omega)
  have p4 := fun W => kpick_any c4 3 W k4.1 k4.2 (by omega) (by omega)
  have p5 := fun W => kpick_any (c4.tdiv 3) 4 W (tdiv3 c4 k4.1 k4.2).1 (tdiv3 c4 k4.1 k4.2).2 (by omega) (by omega)
  have hpa := fun W => part_any c1 W k1.1 k1.2
  have l2 := pickN_lt c2 (n := 150) (by omega)
  have l3 := pickN_lt c3 (n := 150) (by omega)
  have l4 := pickN_lt c4 (n := 3) (by omega)
  have l5 := pickN_lt (c4.tdiv 3) (n := 4) (by omega)
  obtain ⟨hx1, hx2⟩ := partK_ok c1
  generalize pickN c2 150 = t at *
  generalize pickN c3 150 = n1 at *
  generalize pickN c4 3 = km at *
  generalize pickN (c4.tdiv 3) 4 = kv at *
  generalize partK c1 = x at *
  have HX := hide hx1
  clear hx1
  go_enter Tryz.func9, Tryz.ntmps9
  go_wp2_with fail
  refine (measuring_any (unhide HG)).mono ?_
  rintro e w1 ⟨rfl, hb1⟩
  have hfi := filled_any (w := w1) (cap := cap) (show RawAt w1 ao n0 from fun i hi => by
    obtain ⟨sb, so, h1, h2, a, b, c, h3, h4, h5, h6⟩ := unhide HR i hi
    exact ⟨sb, so, h1, Nat.lt_of_lt_of_le h2 hb1.size, a, b, c, (hb1.cell (p := ⟨sb, _, none⟩) h2).trans h3, (hb1.cell (p := ⟨sb, _, none⟩) h2).trans h4, (hb1.cell (p := ⟨sb, _, none⟩) h2).trans h5, h6⟩)
  have HG1 := hide ((unhide HG).below hb1)
  have HB1 := hide hb1
  clear hb1 HR
  go_wp2_with fail
  refine hfi.mono ?_
  rintro e w2 ⟨p, F, S, L, tt, v, kk, rfl, hk40, hF⟩
  clear hfi
  have hL40 : L.length ≤ 40 := by rw [hF.len]; exact hk40
  have HL5 := hide hF.fill.lab5
  have HSH := hide hF.fill.short
  have HK2 := hide hF.keep
  have HV2 := hide (show w2.ownsRow 0 38 3 v L.length (L.flatMap cellsR) from ownsRow_base hF.row (Nat.zero_le _))
  clear hF
  go_wp2_with fail
  refine (p2 _).mono ?_
  rintro e w' ⟨rfl, hww⟩
  rw [hww]
  clear hww w' p2
  go_wp2_with fail
  refine (p3 _).mono ?_
  rintro e w' ⟨rfl, hww⟩
  rw [hww]
  clear hww w' p3
  have hdg := fun W => digits_any (n1 + 1) W (by omega)
  have hd := dig_of (n := n1 + 1) (by omega) (by omega)
  have en : (1 : Int) + (n1 : Int) = ((n1 + 1 : Nat) : Int) := by omega
  have hdl := hd.len
  have HD := hide hd
  have HEN := hide en
  clear hd en
  generalize digL (n1 + 1) = d at *
  go_wp2_with fail
  rw [unhide HEN]
  refine (hdg _).mono ?_
  rintro e w3 ⟨rfl, hb3⟩
  clear hdg
  have hb2 := (unhide HK2).below hb3
  have HK3 := hide hb2
  have HV3 := hide (ownsRow_below (unhide HV2) hb3)
  clear hb2 hb3 HK2 HV2
  have hcR : (⟨#[91]⟩ : ByteArray) ++ ⟨d.toArray⟩ ++ ⟨#[93, 41]⟩ = ⟨(tailQ d).toArray⟩ := by
    apply ByteArray.ext
    simp [ByteArray.data_append, tailQ]
  have hRl : (tailQ d).length ≤ 6 := by simp [tailQ]; omega
  have HCR := hide hcR
  clear hcR
  go_upto_region 8 with fail
  rw [unhide HCR]
  clear HCR
  go_wp2_with fail
  refine (hpa _).mono ?_
  rintro e w4 ⟨rfl, hb4⟩
  clear hpa
  have hk4 := (unhide HK3).below hb4
  have HK4 := hide hk4
  have HV4 := hide (ownsRow_below (unhide HV3) hb4)
  clear hk4 hb4 HK3 HV3
  have hcP : (⟨#[34]⟩ : ByteArray) ++ ⟨x.toArray⟩ ++ ⟨#[34]⟩ = ⟨(34 :: (x ++ [34])).toArray⟩ := by
    apply ByteArray.ext
    simp [ByteArray.data_append]
  have hPl : (34 :: (x ++ [34])).length ≤ 5 := by simp; omega
  have HCP := hide hcP
  clear hcP
  go_upto_region 9 with fail
  rw [unhide HCP]
  clear HCP
  have hcm := row_at (w := w4) names3 km l4
  have hbm : Below w4.heap.size w4 (w4.alloc (.cells (names3.map SV).toArray 9)) := (Below.refl _ w4).alloc (Nat.le_refl _) _
  have hkmi : (km : Int) < 3 := by omega
  have HK5 := hide ((unhide HK4).below hbm)
  have HV5 := hide (ownsRow_below (unhide HV4) hbm)
  have hm4 := names3_ok km l4
  obtain ⟨-, -, hml⟩ := names_ok hm4
  have HM := hide hm4
  clear hbm HK4 HV4 hm4
  generalize names3.getD km [] = m at *
  go_wp2_with fail
  change Calls _ _ _ (w4.alloc (.cells (names3.map SV).toArray 9)) _
  generalize w4.alloc (.cells (names3.map SV).toArray 9) = w5 at *
  refine (p4 _).mono ?_
  rintro e w' ⟨rfl, hww⟩
  rw [hww]
  clear hww w' p4
  go_upto_region 10 with fail
  clear hcm
  have hcv := row_at (w := w5) quoted4 kv l5
  have hbv : Below w5.heap.size w5 (w5.alloc (.cells (quoted4.map SV).toArray 9)) := (Below.refl _ w5).alloc (Nat.le_refl _) _
  have hkvi : (kv : Int) < 4 := by omega
  have HK6 := hide ((unhide HK5).below hbv)
  have HV6 := hide (ownsRow_below (unhide HV5) hbv)
  obtain ⟨hv5, hq5⟩ := vals4_ok kv l5
  obtain ⟨-, hvl⟩ := vals_ok hv5
  have HVV := hide hv5
  rw [hq5] at hcv
  clear hbv HK5 HV5 hv5 hq5
  generalize vals4.getD kv [] = vv at *
  have hVl : (34 :: (vv ++ [34])).length ≤ 5 := by simp; omega
  have hcat := cats d x m vv
  obtain ⟨vb, vc, ve, vf, vg, vh, vi, qa, qb, qc, qd, qe, qf, qg, qh, qi, qj, s1, s2, s3, s4⟩ := parted_vals (at_ := (t : Int)) (unhide HL5) (unhide HSH) (by omega) (unhide HD) (by omega) (by omega) (unhide HX) hx2 (unhide HM) (unhide HVV)
  go_wp2_with fail
  change Calls _ _ _ (w5.alloc (.cells (quoted4.map SV).toArray 9)) _
  generalize w5.alloc (.cells (quoted4.map SV).toArray 9) = w6 at *
  refine (p5 _).mono ?_
  rintro e w' ⟨rfl, hww⟩
  rw [hww]
  clear hww w' p5
  go_upto_region 11 with fail
  clear hcv
  generalize tailQ d = R at *
  generalize 34 :: (x ++ [34]) = P at *
  generalize 34 :: (vv ++ [34]) = V at *
  have HCAT := hide hcat
  have hcast : ((n1 + 1 : Nat) : Int) = (n1 : Int) + 1 := by omega
  rw [hcast] at qa s1 s3
  have hwl40 : (L.filter (inW ((t : Int) - ((n1 : Int) + 1) + 1) ((t : Int) + 1))).length ≤ 40 := Nat.le_trans (List.length_filter_le _ _) hL40
  generalize hWL : (L.filter (inW ((t : Int) - ((n1 : Int) + 1) + 1) ((t : Int) + 1))).length = wl at *
  have HWL := hide hWL
  clear hWL hcast
  have HQa := hide qa
  have HQb := hide qb
  have HQc := hide qc
  have HQd := hide qd
  have HQe := hide qe
  have HQf := hide qf
  have HQg := hide qg
  have HQh := hide qh
  have HQi := hide qi
  have HQj := hide qj
  have HS := hide (⟨s1, s2, s3, s4⟩ : _ ∧ _ ∧ _ ∧ _)
  clear hcat qa qb qc qd qe qf qg qh qi qj s1 s2 s3 s4
  have ho := oneq_any (unhide HK6) (unhide HG1) (unhide HQa)
  go_wp2_with fail
  rw [(unhide HCAT).qa]
  refine ho.mono ?_
  rintro e woa ⟨rfl, hb⟩
  clear ho
  have HKoa := hide ((unhide HK6).below hb)
  have HVoa := hide (ownsRow_below (unhide HV6) hb)
  clear hb HK6 HV6 HQa
  have ho := oneq_any (unhide HKoa) (unhide HG1) (unhide HQb)
  go_wp2_with fail
  rw [(unhide HCAT).qb]
  refine ho.mono ?_
  rintro e wob ⟨rfl, hb⟩
  clear ho
  have HKob := hide ((unhide HKoa).below hb)
  have HVob := hide (ownsRow_below (unhide HVoa) hb)
  clear hb HKoa HVoa HQb
  have ho := oneq_any (unhide HKob) (unhide HG1) (unhide HQc)
  go_wp2_with fail
  rw [(unhide HCAT).qc]
  refine ho.mono ?_
  rintro e woc ⟨rfl, hb⟩
  clear ho
  have HKoc := hide ((unhide HKob).below hb)
  have HVoc := hide (ownsRow_below (unhide HVob) hb)
  clear hb HKob HVob HQc
  have ho := oneq_any (unhide HKoc) (unhide HG1) (unhide HQd)
  go_wp2_with fail
  rw [(unhide HCAT).qd]
  refine ho.mono ?_
  rintro e wod ⟨rfl, hb⟩
  clear ho
  have HKod := hide ((unhide HKoc).below hb)
  have HVod := hide (ownsRow_below (unhide HVoc) hb)
  clear hb HKoc HVoc HQd
  have ho := oneq_any (unhide HKod) (unhide HG1) (unhide HQe)
  go_wp2_with fail
  rw [(unhide HCAT).qe]
  refine ho.mono ?_
  rintro e woe ⟨rfl, hb⟩
  clear ho
  have HKoe := hide ((unhide HKod).below hb)
  have HVoe := hide (ownsRow_below (unhide HVod) hb)
  clear hb HKod HVod HQe
  have ho := oneq_any (unhide HKoe) (unhide HG1) (unhide HQf)
  go_wp2_with fail
  rw [(unhide HCAT).qf]
  refine ho.mono ?_
  rintro e wof ⟨rfl, hb⟩
  clear ho
  have HKof := hide ((unhide HKoe).below hb)
  have HVof := hide (ownsRow_below (unhide HVoe) hb)
  clear hb HKoe HVoe HQf
  have ho := oneq_any (unhide HKof) (unhide HG1) (unhide HQg)
  go_wp2_with fail
  rw [(unhide HCAT).qg]
  refine ho.mono ?_
  rintro e wog ⟨rfl, hb⟩
  clear ho
  have HKog := hide ((unhide HKof).below hb)
  have HVog := hide (ownsRow_below (unhide HVof) hb)
  clear hb HKof HVof HQg
  have ho := oneq_any (unhide HKog) (unhide HG1) (unhide HQh)
  go_wp2_with fail
  rw [(unhide HCAT).qh]
  refine ho.mono ?_
  rintro e woh ⟨rfl, hb⟩
  clear ho
  have HKoh := hide ((unhide HKog).below hb)
  have HVoh := hide (ownsRow_below (unhide HVog) hb)
  clear hb HKog HVog HQh
  have ho := oneq_any (unhide HKoh) (unhide HG1) (unhide HQi)
  go_wp2_with fail
  rw [(unhide HCAT).qi]
  refine ho.mono ?_
  rintro e woi ⟨rfl, hb⟩
  clear ho
  have HKoi := hide ((unhide HKoh).below hb)
  have HVoi := hide (ownsRow_below (unhide HVoh) hb)
  clear hb HKoh HVoh HQi
  have ho := oneq_any (unhide HKoi) (unhide HG1) (unhide HQj)
  go_wp2_with fail
  rw [(unhide HCAT).qj]
  refine ho.mono ?_
  rintro e woj ⟨rfl, hb⟩
  clear ho
  have HKoj := hide ((unhide HKoi).below hb)
  have HVoj := hide (ownsRow_below (unhide HVoi) hb)
  clear hb HKoi HVoi HQj
  have hbt := between_any ((t : Int) - ((n1 : Int) + 1) + 1) ((t : Int) + 1) (unhide HVoj) (by omega)
  obtain ⟨s1, s2, s3, s4⟩ := unhide HS
  have HFI := hide ((unhide HB1).trans ((unhide HKoj).bel.mono (unhide HB1).size))
  clear HS HCAT HKoj HVoj
  have z1 : ((wl : Int) == (vb : Int) + (vc : Int)) = true := by rw [beq_iff_eq]; omega
  have z2 : ((ve : Int) == (vf : Int) + (vg : Int)) = true := by rw [beq_iff_eq]; omega
  have z3 : ((wl : Int) == (vh : Int) + (vi : Int)) = true := by rw [beq_iff_eq]; omega
  have y1 : vb ≤ 40 ∧ vc ≤ 40 ∧ vh ≤ 40 ∧ vi ≤ 40 ∧ vf ≤ 12000 ∧ vg ≤ 12000 := by omega
  obtain ⟨y1, y2, y3, y4, y5, y6⟩ := y1
  clear s1 s2 s3 s4
  go_wp2_with fail
  refine hbt.mono ?_
  rintro e wz ⟨vz, rfl, hownz, hbz⟩
  clear hbt
  rw [unhide HWL] at hownz
  obtain ⟨az, cz, rfl, -, -, -, -, -, -⟩ := owns_form hownz
  have HFZ := hide ((unhide HFI).trans (hbz.mono (unhide HFI).size))
  clear hownz hbz
  go_wp2_with fail
  go_ret
  exact ⟨rfl, unhide HFZ⟩

end Go.Proofs.YtbljamcdaoofbaaGreatDoor
