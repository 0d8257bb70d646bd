/- Texts KTurned, KDropped, joined. -/
import Derived.Test.YtbljamcdaoofbaaGreatDoorKToldToKFind
import Derived.Test.YtbljamcdaoofbaaGreatDoorPUpToPMerge
/- loamkeep's Turned, walked. -/
namespace Go.Proofs.YtbljamcdaoofbaaGreatDoor
open Go.RowKit

/-- a list of rows that can be read -/
def RowOf (w : World) (v : Value) (R : List Rw) : Prop := w.ownsRow 0 38 3 v R.length (R.flatMap cellsR)

theorem RowOf.below {w w' : World} {v : Value} {R : List Rw} (h : RowOf w v R) (hb : Below w.heap.size w w') : RowOf w' v R := ownsRow_same h fun g hg => hb.block g (ownsRow_type h hg).1
theorem RowOf.belowB {w w' : World} {v : Value} {R : List Rw} {B : Nat} (h : RowOf w v R) (hb : Below B w w') (hl : ∀ g, v.ownBlock = some g → g < B) : RowOf w' v R := ownsRow_same h fun g hg => hb.block g (hl g hg)
theorem RowOf.grown {w w' : World} {v u : Value} {R : List Rw} (h : RowOf w v R) (hg : w.grownBy w' u.ownBlock) (hne : ∀ g, v.ownBlock = some g → u.ownBlock ≠ some g) : RowOf w' v R :=
  ownsRow_same h fun g hg' => hg.block g (ownsRow_type h hg').1 (fun e => hne g hg' e.symm)
theorem RowOf.lt {w : World} {v : Value} {R : List Rw} (h : RowOf w v R) {g : Nat} (hg : v.ownBlock = some g) : g < w.heap.size := (ownsRow_type h hg).1

theorem RowOf.init {w : World} {ao : Option Addr} {n c : Nat} {R : List Rw} (h : RowOf w (.slice ao n c) R) (m : Nat) (hm : m ≤ R.length) : RowOf w (.slice ao m c) (R.take m) := by
  have hn : n = R.length := by
    rcases h.2 with ⟨h', e⟩ | ⟨g', cap', cur', h', _⟩
    · simp only [Value.slice.injEq] at h'
      omega
    · simp only [Value.slice.injEq] at h'; exact h'.2.1
  have hl : (R.take m).length = m := by simp; omega
  unfold RowOf
  rw [hl]
  cases ao with
  | none =>
    rcases h.2 with ⟨h', e⟩ | ⟨g', cap', cur', h', _⟩
    · simp only [Value.slice.injEq] at h'
      have hR : R = [] := List.eq_nil_of_length_eq_zero e
      have hm0 : m = 0 := by rw [hR] at hm; simpa using hm
      subst hm0
      rw [h'.2.2]
      exact World.ownsRow_nil _ _ _ _
    · simp at h'
  | some a =>
    obtain ⟨ao', cap', e, -, -, -, hao, -, -⟩ := owns_form h
    simp only [Value.slice.injEq] at e
    obtain ⟨h1, h2, -, -⟩ := hao a e.1.symm
    obtain ⟨g, o, s⟩ := a
    simp only at h1 h2
    subst h1 h2
    have h2 : w.ownsRow 0 38 3 (.slice (some ⟨g, 0, none⟩) n c) n ((R.take m).flatMap cellsR ++ (R.drop m).flatMap cellsR) := by
      rw [← List.flatMap_append, List.take_append_drop]
      have h3 := h
      unfold RowOf at h3
      rw [← hn] at h3
      exact h3
    exact row_init h2 m (by omega) (by rw [flat3_len, hl])

/-- the six lists -/
structure Six (X : World) (v1 v2 v3 v4 v5 v6 : Value) (R1 R2 R3 R4 R5 R6 : List Rw) : Prop where
  r1 : RowOf X v1 R1
  r2 : RowOf X v2 R2
  r3 : RowOf X v3 R3
  r4 : RowOf X v4 R4
  r5 : RowOf X v5 R5
  r6 : RowOf X v6 R6
  n1 : ∀ g, v1.ownBlock = some g → v5.ownBlock ≠ some g
  n2 : ∀ g, v2.ownBlock = some g → v5.ownBlock ≠ some g
  n3 : ∀ g, v3.ownBlock = some g → v5.ownBlock ≠ some g
  n4 : ∀ g, v4.ownBlock = some g → v5.ownBlock ≠ some g
  n6 : ∀ g, v6.ownBlock = some g → v5.ownBlock ≠ some g

theorem Six.below {X Y : World} {v1 v2 v3 v4 v5 v6 : Value} {R1 R2 R3 R4 R5 R6 : List Rw} (h : Six X v1 v2 v3 v4 v5 v6 R1 R2 R3 R4 R5 R6) (hb : Below X.heap.size X Y) : Six Y v1 v2 v3 v4 v5 v6 R1 R2 R3 R4 R5 R6 :=
  ⟨h.r1.below hb, h.r2.below hb, h.r3.below hb, h.r4.below hb, h.r5.below hb, h.r6.below hb, h.n1, h.n2, h.n3, h.n4, h.n6⟩

theorem old_ne {w : World} {v u : Value} {R : List Rw} (h : RowOf w v R) (hu : ∀ g, u.ownBlock = some g → w.heap.size ≤ g) : ∀ g, v.ownBlock = some g → u.ownBlock ≠ some g := by
  intro g hg e
  have h1 := h.lt hg
  have h2 := hu g e
  omega

theorem rows_below {w w' : World} {v : Value} {R : List Rw} (h : w'.ownsRow w.heap.size 38 3 v R.length (R.flatMap cellsR)) : RowOf w' v R ∧ ∀ g, v.ownBlock = some g → w.heap.size ≤ g ∧ g < w'.heap.size := ⟨ownsRow_base h (Nat.zero_le _), fun g hg => h.lt g hg⟩

theorem evrows_any {w0 w : World} {F : Nat → Prop} {p : Nat} {S : List Strm} {L : List Rw} (fr tt lim : Int) (bw : Bool) (h : KeepAt w0 w F p S L) (hg : Glob w0) (h5 : ∀ r ∈ L, r.1 ∈ five) (h1 : 0 ≤ fr) (h2 : fr ≤ tt) (h3 : tt ≤ 1000001) (h4 : 0 ≤ lim) (h6 : lim ≤ 50) :
    Calls Tryz.prog 20 #[.pointer (some ⟨p, 0, none⟩), .string ⟨#[123, 110, 111, 110, 101, 32, 33, 61, 32, 34, 120, 34, 125]⟩, .int .i64 fr, .int .i64 tt, .int .i64 lim, .bool bw] w (RowsP3 w ((ordR bw (winL fr tt L)).take lim.toNat) 0 0) := by
  have hk := krows_any evQ fr tt lim bw h (by decide) hg
  obtain ⟨hE, hA⟩ := ev_rows (bw := bw) h5 h1 h2 h3 h4 h6
  rw [hE, hA] at hk
  exact hk

theorem take_all {R : List Rw} {m : Int} (h : (R.length : Int) ≤ m) : R.take m.toNat = R := List.take_of_length_le (by omega)

theorem rev_at (W : List Rw) (j : Nat) (h : j < W.length) : W.reverse[W.length - 1 - j]'(by simp; omega) = W[j] := by
  rw [List.getElem_reverse]
  congr 1
  omega

set_option maxRecDepth 10000 in
set_option maxHeartbeats 4000000 in
theorem turnedK_any {w : World} {ao : Option Addr} {n cap : Nat} {c1 c2 c3 c4 : Int} (hr : RawAt w ao n) (hg : Glob w) (k1 : -9223372036854775808 ≤ c1 ∧ c1 ≤ 9223372036854775807) (k2 : -9223372036854775808 ≤ c2 ∧ c2 ≤ 9223372036854775807) (k3 : -9223372036854775808 ≤ c3 ∧ c3 ≤ 9223372036854775807) (k4 : -9223372036854775808 ≤ c4 ∧ c4 ≤ 9223372036854775807) :
    Calls Tryz.prog 6 #[.slice ao n cap, .int .i64 c1, .int .i64 c2, .int .i64 c3, .int .i64 c4] w fun e w' => e = .returned (.bool true) ∧ Below w.heap.size w w' := by
  obtain ⟨i0, hi, hz0, hz1, hz2⟩ := info_parts Tryz.info38
  have HR := hide hr
  have HG := hide hg
  clear hr hg
  have p1 := fun W => kpick_any c1 130 W k1.1 k1.2 (by omega) (by omega)
  have p2 := fun W => kpick_any c2 60 W k2.1 k2.2 (by omega) (by omega)
  have p3 := fun W => kpick_any c3 60 W k3.1 k3.2 (by omega) (by omega)
  have p4 := fun W => kpick_any c4 51 W k4.1 k4.2 (by omega) (by omega)
  have l1 := pickN_lt c1 (n := 130) (by omega)
  have l2 := pickN_lt c2 (n := 60) (by omega)
  have l3 := pickN_lt c3 (n := 60) (by omega)
  have l4 := pickN_lt c4 (n := 51) (by omega)
  generalize pickN c1 130 = d1 at *
  generalize pickN c2 60 = d2 at *
  generalize pickN c3 60 = d3 at *
  generalize pickN c4 51 = k at *
  go_enter Tryz.func6, Tryz.ntmps6
  go_wp2_with fail
  refine (finding_any (unhide HG)).mono ?_
  rintro e w1 ⟨rfl, hb1⟩
  have hfi := filled_any (w := w1) (cap := cap) (show RawAt w1 ao n from fun i hi => by
    obtain ⟨sb, so, h1, h2, a, b, c, h3, h4, h5, h6⟩ := unhide HR i hi
    exact ⟨sb, so, h1, Nat.lt_of_lt_of_le h2 hb1.size, a, b, c, (hb1.cell (p := ⟨sb, _, none⟩) h2).trans h3, (hb1.cell (p := ⟨sb, _, none⟩) h2).trans h4, (hb1.cell (p := ⟨sb, _, none⟩) h2).trans h5, h6⟩)
  have HG1 := hide ((unhide HG).below hb1)
  have HB1 := hide hb1
  clear hb1 HR
  go_wp2_with fail
  refine hfi.mono ?_
  rintro e w2 ⟨p, F, S, L, t, v, kk, rfl, hk40, hF⟩
  clear hfi
  have hL40 : L.length ≤ 40 := by rw [hF.len]; exact hk40
  have HL5 := hide hF.fill.lab5
  have HRI := hide hF.fill.rise
  have hlate := hF.late
  have HWW := hide (show ordLs L = winL 0 200 L from ordLs_win fun r hr => by
    have := hF.fill.times r hr
    unfold inW
    simp only [Bool.and_eq_true, decide_eq_true_eq]
    omega)
  have HWF := hide (show (winL 0 200 L).filter (inW (d1 : Int) ((d1 : Int) + d2 + d3)) = winL (d1 : Int) ((d1 : Int) + d2 + d3) L from win_filter hF.fill.rise fun r hr => by
    have := hF.fill.times r hr
    unfold inW
    simp only [Bool.and_eq_true, decide_eq_true_eq]
    omega)
  have HK := hide hF.keep
  have HV := hide (show RowOf w2 v L from ownsRow_base hF.row (Nat.zero_le _))
  clear hF
  go_wp2_with fail
  refine (p1 _).mono ?_
  rintro e w' ⟨rfl, hww⟩
  rw [hww]
  clear hww w' p1
  go_wp2_with fail
  refine (p2 _).mono ?_
  rintro e w' ⟨rfl, hww⟩
  rw [hww]
  clear hww w' p2
  go_wp2_with fail
  refine (p3 _).mono ?_
  rintro e w' ⟨rfl, hww⟩
  rw [hww]
  clear hww w' p3
  go_wp2_with fail
  refine (p4 _).mono ?_
  rintro e w' ⟨rfl, hww⟩
  rw [hww]
  clear hww w' p4
  have hwl := win_len (d1 : Int) ((d1 : Int) + d2 + d3) L
  have hwl1 := win_len (d1 : Int) ((d1 : Int) + d2) L
  have hwl2 := win_len ((d1 : Int) + d2) ((d1 : Int) + d2 + d3) L
  have HAP := hide (win_app (a := (d1 : Int)) (b := (d1 : Int) + d2) (c := (d1 : Int) + d2 + d3) (by omega) (by omega) (unhide HRI))
  have q1 := evrows_any (d1 : Int) ((d1 : Int) + d2 + d3) 50 false (unhide HK) (unhide HG1) (unhide HL5) (by omega) (by omega) (by omega) (by omega) (by omega)
  have e1 : (ordR false (winL (d1 : Int) ((d1 : Int) + d2 + d3) L)).take (50 : Int).toNat = winL (d1 : Int) ((d1 : Int) + d2 + d3) L := take_all (by rw [ordR_len]; omega)
  rw [e1] at q1
  clear e1
  go_wp2_with fail
  refine q1.mono ?_
  rintro e x1 ⟨v1, rfl, o1, b1⟩
  clear q1
  have K1 := hide ((unhide HK).below b1)
  have q2 := evrows_any (d1 : Int) ((d1 : Int) + d2 + d3) 50 true (unhide K1) (unhide HG1) (unhide HL5) (by omega) (by omega) (by omega) (by omega) (by omega)
  have e2 : (ordR true (winL (d1 : Int) ((d1 : Int) + d2 + d3) L)).take (50 : Int).toNat = (winL (d1 : Int) ((d1 : Int) + d2 + d3) L).reverse := take_all (by rw [ordR_len]; omega)
  rw [e2] at q2
  clear e2
  go_wp2_with fail
  refine q2.mono ?_
  rintro e x2 ⟨v2, rfl, o2, b2⟩
  clear q2
  have K2 := hide ((unhide K1).below b2)
  have q3 := evrows_any (d1 : Int) ((d1 : Int) + d2 + d3) (k : Int) false (unhide K2) (unhide HG1) (unhide HL5) (by omega) (by omega) (by omega) (by omega) (by omega)
  rw [Int.toNat_natCast, show ordR false (winL (d1 : Int) ((d1 : Int) + d2 + d3) L) = winL (d1 : Int) ((d1 : Int) + d2 + d3) L from rfl] at q3
  go_wp2_with fail
  refine q3.mono ?_
  rintro e x3 ⟨v3, rfl, o3, b3⟩
  clear q3
  have K3 := hide ((unhide K2).below b3)
  have q4 := evrows_any (d1 : Int) ((d1 : Int) + d2 + d3) (k : Int) true (unhide K3) (unhide HG1) (unhide HL5) (by omega) (by omega) (by omega) (by omega) (by omega)
  rw [Int.toNat_natCast, show ordR true (winL (d1 : Int) ((d1 : Int) + d2 + d3) L) = (winL (d1 : Int) ((d1 : Int) + d2 + d3) L).reverse from rfl] at q4
  go_wp2_with fail
  refine q4.mono ?_
  rintro e x4 ⟨v4, rfl, o4, b4⟩
  clear q4
  have K4 := hide ((unhide K3).below b4)
  have q5 := evrows_any (d1 : Int) ((d1 : Int) + d2) 50 false (unhide K4) (unhide HG1) (unhide HL5) (by omega) (by omega) (by omega) (by omega) (by omega)
  have e5 : (ordR false (winL (d1 : Int) ((d1 : Int) + d2) L)).take (50 : Int).toNat = winL (d1 : Int) ((d1 : Int) + d2) L := take_all (by rw [ordR_len]; omega)
  rw [e5] at q5
  clear e5
  go_wp2_with fail
  refine q5.mono ?_
  rintro e x5 ⟨v5, rfl, o5, b5⟩
  clear q5
  have K5 := hide ((unhide K4).below b5)
  have q6 := evrows_any ((d1 : Int) + d2) ((d1 : Int) + d2 + d3) 50 false (unhide K5) (unhide HG1) (unhide HL5) (by omega) (by omega) (by omega) (by omega) (by omega)
  have e6 : (ordR false (winL ((d1 : Int) + d2) ((d1 : Int) + d2 + d3) L)).take (50 : Int).toNat = winL ((d1 : Int) + d2) ((d1 : Int) + d2 + d3) L := take_all (by rw [ordR_len]; omega)
  rw [e6] at q6
  clear e6
  go_wp2_with fail
  refine q6.mono ?_
  rintro e x6 ⟨v6, rfl, o6, b6⟩
  clear q6
  have K6 := hide ((unhide K5).below b6)
  have V6 : RowOf x6 v L := ((((((unhide HV).below b1).below b2).below b3).below b4).below b5).below b6
  generalize winL (d1 : Int) ((d1 : Int) + d2 + d3) L = W at *
  generalize winL (d1 : Int) ((d1 : Int) + d2) L = P1 at *
  generalize winL ((d1 : Int) + d2) ((d1 : Int) + d2 + d3) L = P2 at *
  obtain ⟨s1, -⟩ := rows_below o1
  obtain ⟨s2, -⟩ := rows_below o2
  obtain ⟨s3, -⟩ := rows_below o3
  obtain ⟨s4, -⟩ := rows_below o4
  obtain ⟨s5, u5⟩ := rows_below o5
  obtain ⟨s6, u6⟩ := rows_below o6
  have y1 := ((s1.below b2).below b3).below b4
  have y2 := (s2.below b3).below b4
  have y3 := s3.below b4
  have hSix : Six x6 v1 v2 v3 v4 v5 v6 W W.reverse (W.take k) (W.reverse.take k) P1 P2 := ⟨(y1.below b5).below b6, (y2.below b5).below b6, (y3.below b5).below b6, (s4.below b5).below b6, s5.below b6, s6, old_ne y1 (fun g hg => (u5 g hg).1), old_ne y2 (fun g hg => (u5 g hg).1), old_ne y3 (fun g hg => (u5 g hg).1), old_ne s4 (fun g hg => (u5 g hg).1), fun g hg e => by
    have h1 := (u6 g hg).1
    have h2 := (u5 g e).2
    omega⟩
  have HS6 := hide hSix
  have HU5 := hide (show ∀ g, v5.ownBlock = some g → w.heap.size ≤ g from fun g hg => Nat.le_trans ((unhide K4).rebase (unhide HB1)).bel.size (u5 g hg).1)
  have hor := ordered_any V6 (by omega)
  clear y1 y2 y3 s1 s2 s3 s4 s5 s6 u5 u6 o1 o2 o3 o4 o5 o6 b1 b2 b3 b4 b5 b6 hSix HV HK K1 K2 K3 K4 K5 HL5 HRI V6
  rw [unhide HWW] at hor
  go_wp2_with fail
  refine hor.mono ?_
  rintro e x7 ⟨v7, rfl, o7, b7⟩
  clear hor
  have hwl0 := win_len 0 200 L
  have hbe := between_any (d1 : Int) ((d1 : Int) + d2 + d3) (ownsRow_base o7 (Nat.zero_le _)) (by omega)
  rw [unhide HWF] at hbe
  have HS7 := hide ((unhide HS6).below b7)
  have K7 := hide ((unhide K6).below b7)
  clear o7 b7 HS6 K6
  go_wp2_with fail
  refine hbe.mono ?_
  rintro e x8 ⟨v8, rfl, o8, b8⟩
  clear hbe
  have HS8 := hide ((unhide HS7).below b8)
  have K8 := hide ((unhide K7).below b8)
  have hsa := same_any (unhide HS8).r1 (ownsRow_base o8 (Nat.zero_le _)) (by omega)
  clear o8 b8 HS7 K7
  go_wp2_with fail
  refine hsa.mono ?_
  rintro e x9 ⟨rfl, m9, hx9⟩
  clear hsa
  have HS9 : Hid (Six x9 v1 v2 v3 v4 v5 v6 W W.reverse (W.take k) (W.reverse.take k) P1 P2) := by
    rw [hx9]
    have h := unhide HS8
    exact ⟨h.r1, h.r2, h.r3, h.r4, h.r5, h.r6, h.n1, h.n2, h.n3, h.n4, h.n6⟩
  have HB9 : Hid (Below w.heap.size w x9) := by
    rw [hx9]
    exact Below.drawn ((unhide K8).rebase (unhide HB1)).bel m9
  clear hx9 HS8 K8
  obtain ⟨a1, cc1, rfl, nc1, cm1, -, -, -, -⟩ := owns_form (unhide HS9).r1
  obtain ⟨a2, cc2, rfl, nc2, cm2, nil2, ao2, cell2, -⟩ := owns_form (unhide HS9).r2
  obtain ⟨a5, cc5, rfl, -, -, -, -, -, -⟩ := owns_form (unhide HS9).r5
  obtain ⟨a6, cc6, rfl, -, -, nil6, ao6, cell6, -⟩ := owns_form (unhide HS9).r6
  have hrl : W.reverse.length = W.length := List.length_reverse
  rw [hrl] at nc2 nil2 cell2 HS9 ⊢
  have N2 := hide nil2
  have A2 := hide ao2
  have C2 := hide cell2
  have N6 := hide nil6
  have A6 := hide ao6
  have C6 := hide cell6
  unfold maxLen at cm1 cm2
  clear nil2 ao2 cell2 nil6 ao6 cell6 hrl HWW HWF HG HG1 HB1
  go_wp2_with fail
  go_loopw [39, 40] (fun vt nn wr => ∃ j : Nat, j ≤ W.length ∧ nn = .int .i64 ((W.length : Int) - 1 - (j : Int)) ∧ wr.ownsRow x9.heap.size 38 3 vt j ((W.take j).flatMap cellsR) ∧ Hid (Below x9.heap.size x9 wr)) (fun _ nn _ => (intOf nn + 1).toNat)
  case atStart => exact ⟨0, Nat.zero_le _, by go_num, World.ownsRow_nil _ _ _ _, hide (Below.refl _ _)⟩
  case round =>
    obtain ⟨j, hj, rfl, hown, HBR⟩ := hrel
    have hszr := (unhide HBR).size
    by_cases hlt : j < W.length
    · obtain ⟨⟨g, o, sp⟩, rfl⟩ : ∃ a, a2 = some a := by
        cases a2 with
        | none => have := (unhide N2 rfl).1; omega
        | some a => exact ⟨a, rfl⟩
      obtain ⟨ho, hsp, -, hgw⟩ := unhide A2 _ rfl
      simp only at ho hsp hgw
      subst ho hsp
      obtain ⟨e0, e1, e2⟩ := cellsR_at W.reverse (W.length - 1 - j) (by simp; omega)
      rw [rev_at W j hlt] at e0 e1 e2
      have m0 := (((unhide HBR).cell (p := ⟨g, (W.length - 1 - j) * 3, none⟩) hgw).trans (unhide C2 _ rfl _ (by omega))).trans e0
      have m1 := (((unhide HBR).cell (p := ⟨g, (W.length - 1 - j) * 3 + 1, none⟩) hgw).trans (unhide C2 _ rfl _ (by omega))).trans e1
      have m2 := (((unhide HBR).cell (p := ⟨g, (W.length - 1 - j) * 3 + 2, none⟩) hgw).trans (unhide C2 _ rfl _ (by omega))).trans e2
      clear e0 e1 e2
      have z1 : (0 : Int) ≤ (W.length : Int) - 1 - (j : Int) := by omega
      have z2 : (W.length : Int) - 1 - (j : Int) < (W.length : Int) := by omega
      have z3 : ((W.length : Int) - 1 - (j : Int)).toNat = W.length - 1 - j := by omega
      have HFT := hide (flat_take3 hlt)
      go_wp2_with (at_builtin; refine wpList_append_at _ rfl _ _ 28 rfl x9.heap.size 38 i0 _ 3 40 Tryz.underlying28 hi hz0 hz1 hz2 rfl (by decide) _ _ _ rfl (hown.alloc _) (some ⟨_, 0, none⟩) 1 1 [SV W[j].1, .int .i64 W[j].2.1, SV W[j].2.2] rfl rfl (by intro e; cases e) (cells_new _ _ _) (by intro u hu; simp at hu; rcases hu with rfl | rfl | rfl <;> rfl) (by unfold maxLen; omega) (by omega) (by simp; omega) ?_; intro vq wq hownq hgrowq hwhq)
      go_roundw
      case rel =>
        refine ⟨j + 1, by omega, by go_num, ?_, hide (((unhide HBR).alloc hszr _).grown hgrowq (by simp; omega) (fun k hk => (hown.lt k hk).1))⟩
        rw [unhide HFT]
        exact hownq
      case measure => simp [intOf]; omega
    · have hjW : j = W.length := by omega
      subst hjW
      rw [List.take_length] at hown
      have hS := (unhide HS9).below (unhide HBR)
      have HT := hide (show RowOf wr u39 W from ownsRow_base hown (Nat.zero_le _))
      have HTN := hide (show ∀ g, u39.ownBlock = some g → (Value.slice a5 P1.length cc5).ownBlock ≠ some g from fun g hg e => by
        have h1 := (hown.lt g hg).1
        have h2 := (unhide HS9).r5.lt e
        omega)
      have HBW := hide ((unhide HB9).trans ((unhide HBR).mono (unhide HB9).size))
      have HSR := hide hS
      have row5 := hS.r5
      have h6l := flat3_len P2
      have HC6 := hide (show ∀ a, a6 = some a → ∀ j u, (P2.flatMap cellsR)[j]? = some u → wr.cell? (a.add j) = some u from fun a ha => cells_of_row (unhide A6 a ha).1 (unhide A6 a ha).2.1 (fun j hj => ((unhide HBR).cell (p := ⟨a.block, j, none⟩) (unhide A6 a ha).2.2.2).trans (unhide C6 a ha j hj)))
      clear hS hown HS9 HB9 HBR C6 A6 C2 A2 N2
      have z1 : ¬ (0 : Int) ≤ (W.length : Int) - 1 - (W.length : Int) := by omega
      go_upto_region 25 with (at_builtin; refine wpList_append_at _ rfl _ _ 28 rfl 0 38 i0 _ 3 40 Tryz.underlying28 hi hz0 hz1 hz2 rfl (by decide) _ _ _ rfl row5 a6 P2.length cc6 (P2.flatMap cellsR) rfl h6l (unhide N6) (unhide HC6) (flat3_one _) (by unfold maxLen; omega) (by omega) (Nat.zero_le _) ?_; intro vq wq hownq hgrowq hwhq)
      have T1 := (unhide HSR).r1.grown hgrowq (unhide HSR).n1
      have T2 := (unhide HSR).r2.grown hgrowq (unhide HSR).n2
      have T3 := (unhide HSR).r3.grown hgrowq (unhide HSR).n3
      have T4 := (unhide HSR).r4.grown hgrowq (unhide HSR).n4
      have TT := (unhide HT).grown hgrowq (unhide HTN)
      have T5 : RowOf wq vq W := by
        rw [← unhide HAP]
        unfold RowOf
        rw [List.length_append, List.flatMap_append]
        exact hownq
      have HBQ := hide (show Below w.heap.size w wq from (unhide HBW).trans ⟨hgrowq.os, hgrowq.tape, hgrowq.output, hgrowq.size, fun b hb => hgrowq.block b (Nat.lt_of_lt_of_le hb (unhide HBW).size) (fun e => by have := unhide HU5 b e.symm; omega)⟩)
      have hm : min k W.length ≤ W.length := Nat.min_le_right _ _
      have hck : W.take (min k W.length) = W.take k := by
        by_cases h : k ≤ W.length
        · rw [Nat.min_eq_left h]
        · rw [Nat.min_eq_right (by omega), List.take_length, List.take_of_length_le (by omega)]
      have hckr : W.reverse.take (min k W.length) = W.reverse.take k := by
        have hrr : W.reverse.length = W.length := List.length_reverse
        by_cases h : k ≤ W.length
        · rw [Nat.min_eq_left h]
        · rw [Nat.min_eq_right (by omega), List.take_of_length_le (by omega), List.take_of_length_le (by omega)]
      have I1 := T1.init (min k W.length) hm
      have I2 := T2.init (min k W.length) (by rw [List.length_reverse]; exact hm)
      rw [hck] at I1
      rw [hckr] at I2
      have HM := hide (show min (k : Int) (W.length : Int) = ((min k W.length : Nat) : Int) by omega)
      have S1 := same_any T1 TT (by omega)
      clear hgrowq hwhq hownq row5 HSR HT HTN HBW HC6 h6l z1 hck hckr
      have g1 : ((min k W.length : Nat) : Int) ≤ (cc1 : Int) := by omega
      have g2 : ((min k W.length : Nat) : Int) ≤ (cc2 : Int) := by omega
      generalize min k W.length = mm at *
      go_wp2_with fail
      refine S1.mono ?_
      rintro e y1 ⟨rfl, m1, hy1⟩
      rw [hy1]
      clear hy1 y1 S1
      rw [unhide HM]
      have I1' : RowOf (wq.drewN m1) (.slice a1 mm cc1) (W.take k) := I1
      have T3' : RowOf (wq.drewN m1) v3 (W.take k) := T3
      have S2 := same_any T3' I1' (by simp; omega)
      go_wp2_with fail
      refine S2.mono ?_
      rintro e y2 ⟨rfl, m2, hy2⟩
      rw [hy2, drewN_more]
      clear hy2 y2 S2 I1' T3'
      have I2' : RowOf (wq.drewN (m1 + m2)) (.slice a2 mm cc2) (W.reverse.take k) := I2
      have T4' : RowOf (wq.drewN (m1 + m2)) v4 (W.reverse.take k) := T4
      have S3 := same_any T4' I2' (by simp; omega)
      go_wp2_with fail
      refine S3.mono ?_
      rintro e y3 ⟨rfl, m3, hy3⟩
      rw [hy3, drewN_more]
      clear hy3 y3 S3 I2' T4'
      have T1' : RowOf (wq.drewN (m1 + m2 + m3)) (.slice a1 W.length cc1) W := T1
      have T5' : RowOf (wq.drewN (m1 + m2 + m3)) vq W := T5
      have S4 := same_any T1' T5' (by omega)
      go_wp2_with fail
      refine S4.mono ?_
      rintro e y4 ⟨rfl, m4, hy4⟩
      rw [hy4, drewN_more]
      clear hy4 y4 S4 T1' T5'
      go_wp2_with fail
      go_ret
      exact ⟨rfl, Below.drawn (unhide HBQ) _⟩

end Go.Proofs.YtbljamcdaoofbaaGreatDoor

/- loamkeep's Dropped, walked. -/
namespace Go.Proofs.YtbljamcdaoofbaaGreatDoor
open Go.RowKit

def lateL (b : Int) (L : List Rw) : List Rw := L.filter (fun x => decide (b ≤ x.2.1))

theorem dropR_yes {L : List Rw} {b : Int} (h1 : 0 ≤ b) (h2 : b ≤ 1000000) : dropR L b = ((L.length : Int) - ((lateL b L).length : Int), 0, lateL b L) := by
  have e : ¬ timeB b = false := by unfold timeB; simp; omega
  unfold dropR
  rw [if_neg e]
  rfl

theorem lateL_twice (b : Int) (L : List Rw) : lateL b (lateL b L) = lateL b L := by
  unfold lateL
  rw [List.filter_filter]
  exact List.filter_congr fun r _ => Bool.and_self _

theorem lateL_rise {b : Int} {L : List Rw} (h : RiseL L) : RiseL (lateL b L) := List.Pairwise.sublist List.filter_sublist h

theorem lateL_snoc (b : Int) (L : List Rw) (k : Nat) (h : k < L.length) : lateL b (L.take (k + 1)) = lateL b (L.take k) ++ (if b ≤ L[k].2.1 then [L[k]] else []) := by
  unfold lateL
  rw [List.take_succ_eq_append_getElem h, List.filter_append]
  congr 1
  by_cases e : b ≤ L[k].2.1
  · rw [if_pos e, List.filter_cons_of_pos (by simpa using e), List.filter_nil]
  · rw [if_neg e, List.filter_cons_of_neg (by simpa using e), List.filter_nil]

/-- the last line's stream: an earlier line is refused, one of its time is not -/
theorem late_push {S : List Strm} {L L' : List Rw} {t : Int} (h : Fill S L t) (hL : L'.length < 300) (hn : 0 < L.length) (ht : t ≤ 1000000) (h0 : L[L.length - 1].2.1 ≠ 0) :
    pushR S L' L[L.length - 1].1 (L[L.length - 1].2.1 - 1) [120] = (4, S, L') ∧ (pushR S L' L[L.length - 1].1 L[L.length - 1].2.1 [120]).1 = 0 := by
  have hlast : L[L.length - 1] ∈ L := List.getElem_mem _
  obtain ⟨y, hy, e1, hle⟩ := h.back _ hlast
  obtain ⟨r, hr, e2, e3⟩ := h.has y hy
  have hT := h.times _ hlast
  have hrT : r.2.1 ≤ L[L.length - 1].2.1 := by
    obtain ⟨j, hj, rfl⟩ := List.getElem_of_mem hr
    by_cases e : j = L.length - 1
    · subst e; exact Int.le_refl _
    · exact List.pairwise_iff_getElem.1 h.sorted j (L.length - 1) hj (by omega) (by omega)
  have hyT : y.2 = L[L.length - 1].2.1 := by omega
  have hk : at_ S L[L.length - 1].1 < S.length := by
    unfold at_
    rw [List.findIdx_lt_length]
    exact ⟨y, hy, by simp [e1]⟩
  have hlab : S[at_ S L[L.length - 1].1].1 = L[L.length - 1].1 := by
    have := List.findIdx_getElem (w := hk)
    change S[List.findIdx (fun y : Strm => y.1 == L[L.length - 1].1) S].1 = _
    simpa using this
  have hSy : S[at_ S L[L.length - 1].1] = y := by
    obtain ⟨j, hj, rfl⟩ := List.getElem_of_mem hy
    have hu := List.nodup_iff_pairwise_ne.1 h.uniq
    rw [List.pairwise_iff_getElem] at hu
    by_cases e : at_ S L[L.length - 1].1 = j
    · simp only [e]
    · exfalso
      rcases Nat.lt_or_gt_of_ne e with g | g
      · exact hu _ j (by simpa using hk) (by simpa using hj) g (by simp [hlab, e1])
      · exact hu j _ (by simpa using hj) (by simpa using hk) g (by simp [hlab, e1])
  have f1 : ¬ labelsB L[L.length - 1].1 = false := by rw [five_ok _ (h.lab5 _ hlast)]; decide
  have f2 : ¬ timeB (L[L.length - 1].2.1 - 1) = false := by unfold timeB; simp; omega
  have f3 : ¬ timeB L[L.length - 1].2.1 = false := by unfold timeB; simp; omega
  constructor
  · unfold pushR
    rw [if_neg f1, if_neg f2, if_neg (by decide), dif_pos hk, if_pos (by rw [hSy, hyT]; omega)]
  · unfold pushR
    rw [if_neg f1, if_neg f3, if_neg (by decide), dif_pos hk, if_neg (by rw [hSy, hyT]; omega), if_neg (by omega)]

set_option maxRecDepth 10000 in
set_option maxHeartbeats 1200000 in
theorem droppedK_any {w : World} {ao : Option Addr} {n cap : Nat} {c1 : Int} (hr : RawAt w ao n) (hg : Glob w) (k1 : -9223372036854775808 ≤ c1 ∧ c1 ≤ 9223372036854775807) :
    Calls Tryz.prog 7 #[.slice ao n cap, .int .i64 c1] w fun e w' => e = .returned (.bool true) ∧ Below w.heap.size w w' := by
  obtain ⟨i0, hi, hz0, hz1, hz2⟩ := info_parts Tryz.info38
  have HR := hide hr
  have HG := hide hg
  clear hr hg
  have p1 := fun W => kpick_any c1 140 W k1.1 k1.2 (by omega) (by omega)
  have l1 := pickN_lt c1 (n := 140) (by omega)
  generalize pickN c1 140 = d at *
  go_enter Tryz.func7, Tryz.ntmps7
  go_wp2_with fail
  refine (finding_any (unhide HG)).mono ?_
  rintro e w1 ⟨rfl, hb1⟩
  have hfi := filled_any (w := w1) (cap := cap) (show RawAt w1 ao n from fun i hi => by
    obtain ⟨sb, so, h1, h2, a, b, c, h3, h4, h5, h6⟩ := unhide HR i hi
    exact ⟨sb, so, h1, Nat.lt_of_lt_of_le h2 hb1.size, a, b, c, (hb1.cell (p := ⟨sb, _, none⟩) h2).trans h3, (hb1.cell (p := ⟨sb, _, none⟩) h2).trans h4, (hb1.cell (p := ⟨sb, _, none⟩) h2).trans h5, h6⟩)
  have HG1 := hide ((unhide HG).below hb1)
  have HB1 := hide hb1
  clear hb1 HR
  go_wp2_with fail
  refine hfi.mono ?_
  rintro e w2 ⟨p, F, S, L, t, v, kk, rfl, hk40, hF⟩
  clear hfi
  have hL40 : L.length ≤ 40 := by rw [hF.len]; exact hk40
  have HL5 := hide hF.fill.lab5
  have HRI := hide hF.fill.rise
  have hlate := hF.late
  have HFL := hide hF.fill
  have HK := hide hF.keep
  have HV := hide (show RowOf w2 v L from ownsRow_base hF.row (Nat.zero_le _))
  have HVA := hide hF.apart
  clear hF
  go_wp2_with fail
  refine (p1 _).mono ?_
  rintro e w' ⟨rfl, hww⟩
  rw [hww]
  clear hww w' p1
  have q1 := kstreams_any (unhide HK)
  go_wp2_with fail
  refine q1.mono ?_
  rintro e x1 ⟨v1, rfl, o1, b1⟩
  clear q1
  obtain ⟨s1, sc1, rfl, -, -, -, -, -, -⟩ := owns_form o1
  have K1 := hide ((unhide HK).below b1)
  have V1 := (unhide HV).below b1
  have q2 := kdrop_any (d : Int) (unhide K1)
  have hdr := dropR_yes (L := L) (b := (d : Int)) (by omega) (by omega)
  clear o1 b1
  go_wp2_with fail
  refine q2.mono ?_
  rintro e x2 ⟨rfl, F2, hk2, hm2, hF2⟩
  clear q2
  rw [hdr] at hk2 ⊢
  have V2 : RowOf x2 v L := ownsRow_same V1 fun g hg => hm2.block g (V1.lt hg) (unhide HVA g hg)
  have A2 := hide (show ∀ g, v.ownBlock = some g → ¬ F2 g from fun g hg hf => by
    rcases hF2 g hf with h1 | h1
    · exact unhide HVA g hg h1
    · have := V1.lt hg; omega)
  have q3 := kdrop_any (d : Int) hk2
  have hdr2 := dropR_yes (L := lateL (d : Int) L) (b := (d : Int)) (by omega) (by omega)
  rw [lateL_twice] at hdr2
  have K2 := hide hk2
  clear hk2 hm2 hF2 V1 hdr K1 HK
  simp only at K2 q3
  go_wp2_with fail
  refine q3.mono ?_
  rintro e x3 ⟨rfl, F3, hk3, hm3, hF3⟩
  clear q3
  rw [hdr2] at hk3 ⊢
  have V3 : RowOf x3 v L := ownsRow_same V2 fun g hg => hm3.block g (V2.lt hg) (unhide A2 g hg)
  have A3 := hide (show ∀ g, v.ownBlock = some g → ¬ F3 g from fun g hg hf => by
    rcases hF3 g hf with h1 | h1
    · exact unhide A2 g hg h1
    · have := V2.lt hg; omega)
  have q4 := kstreams_any hk3
  have K3 := hide hk3
  clear hk3 hm3 hF3 V2 hdr2 K2 A2 HVA
  simp only at K3 q4
  go_wp2_with fail
  refine q4.mono ?_
  rintro e x4 ⟨v4, rfl, o4, b4⟩
  clear q4
  obtain ⟨s4, sc4, rfl, -, -, -, -, -, -⟩ := owns_form o4
  have K4 := hide ((unhide K3).below b4)
  have V4 := V3.below b4
  clear o4 b4 K3 V3
  obtain ⟨aL, capL, rfl, -, cmL, nilL, aoL, cellL, -⟩ := owns_form V4
  have NL := hide nilL
  have AL := hide aoL
  have CL := hide cellL
  have HV4 := hide V4
  unfold maxLen at cmL
  clear nilL aoL cellL V4
  go_wp2_with fail
  go_loopw [16, 17] (fun vt i wr => ∃ j : Nat, j ≤ L.length ∧ i = .int .i64 j ∧ wr.ownsRow x4.heap.size 38 3 vt (lateL (d : Int) (L.take j)).length ((lateL (d : Int) (L.take j)).flatMap cellsR) ∧ Hid (Below x4.heap.size x4 wr)) (fun _ i _ => L.length - (intOf i).toNat)
  case atStart => exact ⟨0, Nat.zero_le _, rfl, World.ownsRow_nil _ _ _ _, hide (Below.refl _ _)⟩
  case round =>
    obtain ⟨j, hj, rfl, hown, HBR⟩ := hrel
    have hszr := (unhide HBR).size
    by_cases hlt : j < L.length
    · obtain ⟨⟨g, o, sp⟩, rfl⟩ : ∃ a, aL = some a := by
        cases aL with
        | none => have := (unhide NL rfl).1; omega
        | some a => exact ⟨a, rfl⟩
      obtain ⟨ho, hsp, -, hgw⟩ := unhide AL _ rfl
      simp only at ho hsp hgw
      subst ho hsp
      obtain ⟨e0, e1, e2⟩ := cellsR_at L j hlt
      have m0 := (((unhide HBR).cell (p := ⟨g, j * 3, none⟩) hgw).trans (unhide CL _ rfl _ (by omega))).trans e0
      have m1 := (((unhide HBR).cell (p := ⟨g, j * 3 + 1, none⟩) hgw).trans (unhide CL _ rfl _ (by omega))).trans e1
      have m2 := (((unhide HBR).cell (p := ⟨g, j * 3 + 2, none⟩) hgw).trans (unhide CL _ rfl _ (by omega))).trans e2
      clear e0 e1 e2
      have HS := hide (lateL_snoc (d : Int) L j hlt)
      have hlen : (lateL (d : Int) (L.take j)).length ≤ 40 := Nat.le_trans (List.length_filter_le _ _) (by simp; omega)
      have hji : (j : Int) < (L.length : Int) := by omega
      generalize lateL (d : Int) (L.take j) = O at *
      generalize L[j] = r at *
      obtain ⟨lab, tm, line⟩ := r
      simp only at m0 m1 m2 HS
      obtain ⟨aO, cO, rfl, -, -, -, -, -, -⟩ := owns_form hown
      by_cases hle : (d : Int) ≤ tm
      · go_wp2_with (at_builtin; refine wpList_append_at _ rfl _ _ 28 rfl x4.heap.size 38 i0 _ 3 40 Tryz.underlying28 hi hz0 hz1 hz2 rfl (by decide) _ _ _ rfl (hown.alloc _) (some ⟨_, 0, none⟩) 1 1 [SV lab, .int .i64 tm, SV line] rfl rfl (by intro e; cases e) (cells_new _ _ _) (by intro u hu; simp at hu; rcases hu with rfl | rfl | rfl <;> rfl) (by unfold maxLen; omega) (by omega) (by simp; omega) ?_; intro v6 w6 hown6 hgrow6 hwh6)
        go_roundw
        case rel =>
          refine ⟨j + 1, by omega, by go_num, ?_, hide (((unhide HBR).alloc hszr _).grown hgrow6 (by simp; omega) (fun k hk => (hown.lt k hk).1))⟩
          rw [unhide HS, if_pos hle, List.flatMap_append, List.length_append]
          exact hown6
        case measure => simp [intOf]; omega
      · go_wp2_with fail
        go_roundw
        case rel =>
          refine ⟨j + 1, by omega, by go_num, ?_, HBR⟩
          rw [unhide HS, if_neg hle, List.append_nil]
          exact hown
        case measure => simp [intOf]; omega
    · have hjL : j = L.length := by omega
      subst hjL
      rw [List.take_length] at hown
      have hlen : (lateL (d : Int) L).length ≤ 40 := Nat.le_trans (List.length_filter_le _ _) hL40
      have hmem : ∀ r ∈ lateL (d : Int) L, r ∈ L := fun r hr => (List.mem_filter.1 hr).1
      have K5 := hide ((unhide K4).below (unhide HBR))
      have hto := told_any (unhide K5) (unhide HG1) (fun r hr => unhide HL5 r (hmem r hr)) (lateL_rise (unhide HRI)) hlen
      have HWW := hide (show ordLs (lateL (d : Int) L) = winL 0 200 (lateL (d : Int) L) from ordLs_win fun r hr => by
        have := (unhide HFL).times r (hmem r hr)
        unfold inW
        simp only [Bool.and_eq_true, decide_eq_true_eq]
        omega)
      have hwl := win_len 0 200 (lateL (d : Int) L)
      have V5 := (unhide HV4).below (unhide HBR)
      have T5 : RowOf wr u16 (lateL (d : Int) L) := ownsRow_base hown (Nat.zero_le _)
      have hlp := fun h1 h2 => late_push (L' := lateL (d : Int) L) (unhide HFL) (by omega) h1 (by omega) h2
      have hlab := fun h1 : 0 < L.length => five_len _ ((unhide HFL).lab5 _ (List.getElem_mem (show L.length - 1 < L.length by omega)))
      have htmb := fun h1 : 0 < L.length => (unhide HFL).times _ (List.getElem_mem (show L.length - 1 < L.length by omega))
      have HLP := hide hlp
      have HTM := hide htmb
      have HLB := hide hlab
      clear hown hmem hlp hlab htmb HBR K4 HV4
      generalize lateL (d : Int) L = L' at *
      obtain ⟨aT, cT, rfl, -, -, -, -, -, -⟩ := owns_form T5
      go_wp2_with fail
      refine hto.mono ?_
      rintro e x6 ⟨v6, rfl, o6, b6⟩
      clear hto
      have hor := ordered_any (T5.below b6) (by omega)
      rw [unhide HWW] at hor
      have K6 := hide ((unhide K5).below b6)
      have V6 := V5.below b6
      clear K5 V5 HWW
      go_wp2_with fail
      refine hor.mono ?_
      rintro e x7 ⟨v7, rfl, o7, b7⟩
      clear hor
      have hsa := same_any (show RowOf x7 v6 (winL 0 200 L') from (RowOf.below (ownsRow_base o6 (Nat.zero_le _)) b7)) (ownsRow_base o7 (Nat.zero_le _)) (by omega)
      have K7 := hide ((unhide K6).below b7)
      have V7 := V6.below b7
      clear o6 o7 b6 b7 K6 V6 T5
      go_wp2_with fail
      refine hsa.mono ?_
      rintro e x8 ⟨rfl, m8, hx8⟩
      clear hsa
      have K8 : Hid (KeepAt w1 x8 F3 p S L') := by
        rw [hx8]
        exact (unhide K7).moved (G := fun _ => False) ⟨rfl, rfl, rfl, Nat.le_refl _, fun _ _ _ => rfl⟩ (fun _ _ g => g) (fun _ _ g => g)
      have V8 : RowOf x8 (.slice aL L.length capL) L := by rw [hx8]; exact V7
      clear hx8 K7 V7
      have HFB := hide (((unhide K8).rebase (unhide HB1)).bel)
      by_cases hL0 : L.length = 0
      · have hl0 : (L.length : Int) = 0 := by omega
        have hl1 : ((L.length : Int) == 0) = true := by rw [hl0]; rfl
        clear HLP HLB HTM V8 K8 CL AL NL
        go_wp2_with fail
        go_ret
        exact ⟨rfl, unhide HFB⟩
      · have hl1 : ((L.length : Int) == 0) = false := by rw [beq_eq_false_iff_ne]; omega
        have hpos : 0 < L.length := by omega
        obtain ⟨g, c', e8, -, hgw, -, -, hc8, -⟩ := owns_open V8 hpos
        simp only [Value.slice.injEq, true_and] at e8
        obtain ⟨rfl, rfl⟩ := e8
        obtain ⟨e0, e1, e2⟩ := cellsR_at L (L.length - 1) (by omega)
        have m0 := (hc8 ((L.length - 1) * 3) (by omega)).trans e0
        have m1 := (hc8 ((L.length - 1) * 3 + 1) (by omega)).trans e1
        have m2 := (hc8 ((L.length - 1) * 3 + 2) (by omega)).trans e2
        have z1 : (0 : Int) ≤ (L.length : Int) - 1 := by omega
        have z2 : (L.length : Int) - 1 < (L.length : Int) := by omega
        have z3 : ((L.length : Int) - 1).toNat = L.length - 1 := by omega
        have hlb := unhide HLB hpos
        have htb := unhide HTM hpos
        have HP2 := hide (fun h2 => unhide HLP hpos h2)
        clear e0 e1 e2 hc8 HLP HLB HTM CL AL NL V8
        generalize L[L.length - 1] = r at *
        obtain ⟨lab, tm, line⟩ := r
        simp only at m0 m1 m2 hlb HP2 htb
        clear z1 z2 z3 hlt hj hl1 hL0
        generalize L.length = N0 at *
        obtain ⟨q, rfl⟩ : ∃ q, N0 = q + 1 := ⟨N0 - 1, by omega⟩
        rw [Nat.add_sub_cancel] at m0 m1 m2
        have hl1 : (((q + 1 : Nat) : Int) == 0) = false := by rw [beq_eq_false_iff_ne]; omega
        by_cases h0 : tm = 0
        · have h0b : (tm == 0) = true := by simp [h0]
          clear HP2 K8
          go_wp2_with fail
          go_ret
          exact ⟨rfl, unhide HFB⟩
        · have h0b : (tm == 0) = false := by simpa using h0
          obtain ⟨ep1, ep2⟩ := unhide HP2 h0
          clear HP2
          have hbx : Below x8.heap.size x8 (x8.alloc (.cells #[SV lab, .int .i64 tm, SV line] 38)) := (Below.refl _ x8).alloc (Nat.le_refl _) _
          have K9 := (unhide K8).below hbx
          have r1 := kpush_any lab [120] (tm - 1) K9 (by omega) (by decide)
          have hbox := heap_alloc_new x8 (.cells #[SV lab, .int .i64 tm, SV line] 38)
          have hnF : ¬ F3 x8.heap.size := fun hf => by have := ((unhide K8).high _ hf).2; omega
          have HBX := hide hbox
          have HSX := hide (show x8.heap.size < (x8.alloc (.cells #[SV lab, .int .i64 tm, SV line] 38)).heap.size by simp)
          clear hbx hbox K9
          go_wp2_with fail
          refine r1.mono ?_
          rintro e y1 ⟨rfl, F9, hk9, hm9, hF9⟩
          clear r1
          rw [ep1] at hk9 ⊢
          have hb9 := (hm9.block x8.heap.size (unhide HSX) hnF).trans (unhide HBX)
          obtain ⟨t0, t1, t2, -⟩ := cell_of_block3 hb9
          simp only at hk9
          have r2 := kpush_any lab [120] tm hk9 (by omega) (by decide)
          clear hk9 hm9 hF9 hb9
          go_wp2_with fail
          refine r2.mono ?_
          rintro e y2 ⟨rfl, F10, hk10, -, -⟩
          clear r2
          rw [ep2]
          have HFB2 := hide ((hk10.rebase (unhide HB1)).bel)
          clear hk10
          go_wp2_with fail
          go_ret
          exact ⟨rfl, unhide HFB2⟩

end Go.Proofs.YtbljamcdaoofbaaGreatDoor
