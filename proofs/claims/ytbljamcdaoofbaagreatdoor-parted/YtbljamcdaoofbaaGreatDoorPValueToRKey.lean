/- Texts PValue, PBits, PGFind, PGInsert, RKey, joined. -/
import Derived.Test.YtbljamcdaoofbaaGreatDoorFloatWordToMeasSpec
import Derived.WalkLawsBesides
import Derived.Test.YtbljamcdaoofbaaGreatDoorPFindToPAdd
/- What the program takes a group for. -/
namespace Go.Proofs.YtbljamcdaoofbaaGreatDoor
open Go.RowKit

def meanT : List UInt8 := [109, 101, 97, 110]
/-- the bits of a group's value -/
noncomputable def valS (kind : List UInt8) (span n b : Nat) (s : Int) : Nat :=
  if kind = rateT then fB n span
  else if kind = bytesT then fB b 1
  else if kind = meanT then (if s < 0 then 2147483648 + fB (wholeN (fB (-s).toNat 1)) n else fB (wholeN (fB s.toNat 1)) n)
  else fB n 1

theorem ofInt_nat (n : Nat) (h : n < 2 ^ 60) : floatOfInt .f32 (n : Int) = fB n 1 := by
  have e : floatOfInt .f32 (n : Int) = Ieee.single.nearest (decide ((n : Int) < 0)) n 0 := rfl
  rw [e, show decide ((n : Int) < 0) = false by simp, nearest_fB h]

theorem ofInt_neg (n : Nat) (h : 0 < n) : floatOfInt .f32 (-(n : Int)) = Ieee.single.nearest true n 0 := by
  have e : floatOfInt .f32 (-(n : Int)) = Ieee.single.nearest (decide (-(n : Int) < 0)) (-(n : Int)).natAbs 0 := rfl
  rw [e, show decide (-(n : Int) < 0) = true by simp; omega, Int.natAbs_neg, Int.natAbs_natCast]

theorem quo_rate {n d : Nat} (hn : n < 16777216) (hd : 0 < d) (hd2 : d < 16777216) : floatBits .quo .f32 (fB n 1) (fB d 1) = some (fB n d) := by
  have h1 : n < 2 ^ 60 := Nat.lt_trans hn (by decide)
  have h2 : d < 2 ^ 60 := Nat.lt_trans hd2 (by decide)
  show Ieee.single.div (fB n 1) (fB d 1) = _
  by_cases h0 : n = 0
  · subst h0
    rw [fB_zero, fB_zero, ← nearest_fB h2, div_zero hd hd2]
  · rw [← nearest_fB h1, ← nearest_fB h2, div_fB false (by omega) h1 hd hd2, word_false, whole_small hn]

theorem quo_mean {n d : Nat} (hn : n < 2 ^ 60) (hd : 0 < d) (hd2 : d < 16777216) : floatBits .quo .f32 (fB n 1) (fB d 1) = some (fB (wholeN (fB n 1)) d) := by
  have h2 : d < 2 ^ 60 := Nat.lt_trans hd2 (by decide)
  show Ieee.single.div (fB n 1) (fB d 1) = _
  by_cases h0 : n = 0
  · subst h0
    rw [fB_zero, ← nearest_fB h2, div_zero hd hd2, show wholeN 0 = 0 from rfl, fB_zero]
  · rw [← nearest_fB h2]
    have := div_fB false (A := n) (by omega) hn hd hd2
    rw [word_false, nearest_fB hn] at this
    exact this

theorem quo_neg {n d : Nat} (h0 : 0 < n) (hn : n < 2 ^ 60) (hd : 0 < d) (hd2 : d < 16777216) : floatBits .quo .f32 (Ieee.single.nearest true n 0) (fB d 1) = some (2147483648 + fB (wholeN (fB n 1)) d) := by
  have h2 : d < 2 ^ 60 := Nat.lt_trans hd2 (by decide)
  show Ieee.single.div (Ieee.single.nearest true n 0) (fB d 1) = _
  rw [← nearest_fB h2, div_fB true h0 hn hd hd2, sign_word]

set_option maxRecDepth 10000 in
set_option maxHeartbeats 1000000 in
theorem value_any' {w : World} {gb : Nat} {kind key : List UInt8} {span n b : Nat} {s : Int} {vg : Value} (hg : w.heap[gb]? = some (.cells #[SV kind, .int .i64 span, vg] 139 (0, 0))) (hn : 0 < n) (hn2 : n ≤ 300) (hb : b ≤ 12000) (hs : 0 < span) (hs2 : span ≤ 1000000) (s1 : -300000300 ≤ s) (s2 : s ≤ 300000300) :
    Calls Tryz.prog 87 #[.pointer (some ⟨gb, 0, none⟩), .agg #[SV key, .int .i64 n, .int .i64 b, .int .i64 s]] w fun e w' => e = .returned (.float .f32 (valS kind span n b s)) ∧ Below w.heap.size w w' := by
  obtain ⟨c0, c1, c2, -⟩ := cell_of_block3 hg
  have hgw := (Array.getElem?_eq_some_iff.1 hg).1
  clear hg
  have h60 : (300000300 : Nat) < 2 ^ 60 := by decide
  have f1 := ofInt_nat n (by omega)
  have f2 := ofInt_nat b (by omega)
  have f3 := ofInt_nat span (by omega)
  go_enter Tryz.func87, Tryz.ntmps87
  cases t1 : (kind == [114, 97, 116, 101]) with
  | true =>
    have HV := hide (show valS kind span n b s = fB n span by unfold valS; rw [if_pos (by simpa [rateT] using t1)])
    have hq := quo_rate (n := n) (d := span) (by omega) hs (by omega)
    have hrun := fun W => run_float_arith (P := Tryz.prog) W .quo 151 .f32 _ _ _ hq
    go_upto_region 3 with fail
    clear hq t1
    go_quiet (fail)
    go_wp2_with fail
    go_ret
    refine ⟨?_, ?_⟩
    · rw [unhide HV]
      rfl
    · repeat (first | exact (Below.refl _ w).alloc (Nat.le_refl _) _ | apply Below.drew | apply Below.drawn)
  | false =>
    have g1 : ¬ kind = rateT := by simpa [rateT] using t1
    cases t2 : (kind == [98, 121, 116, 101, 115]) with
    | true =>
      have HV := hide (show valS kind span n b s = fB b 1 by unfold valS; rw [if_neg g1, if_pos (by simpa [bytesT] using t2)])
      go_wp2_with fail
      go_ret
      refine ⟨?_, (Below.refl _ w).alloc (Nat.le_refl _) _⟩
      rw [unhide HV, ← f2]
      rfl
    | false =>
      have g2 : ¬ kind = bytesT := by simpa [bytesT] using t2
      cases t3 : (kind == [109, 101, 97, 110]) with
      | true =>
        have HV := hide (show valS kind span n b s = (if s < 0 then 2147483648 + fB (wholeN (fB (-s).toNat 1)) n else fB (wholeN (fB s.toNat 1)) n) by unfold valS; rw [if_neg g1, if_neg g2, if_pos (by simpa [meanT] using t3)])
        by_cases h5 : s < 0
        · obtain ⟨a, rfl⟩ : ∃ a : Nat, s = -(a : Int) := ⟨(-s).toNat, by omega⟩
          rw [if_pos h5, show (-(-(a : Int))).toNat = a by omega] at HV
          have f4 := ofInt_neg a (by omega)
          have hq := quo_neg (n := a) (d := n) (by omega) (by omega) hn (by omega)
          have hrun := fun W => run_float_arith (P := Tryz.prog) W .quo 151 .f32 _ _ _ hq
          clear hq
          generalize Ieee.single.nearest true a 0 = fa at *
          go_wp2_with fail
          go_ret
          refine ⟨?_, (Below.refl _ w).alloc (Nat.le_refl _) _⟩
          rw [unhide HV]
          rfl
        · obtain ⟨a, rfl⟩ : ∃ a : Nat, s = (a : Int) := ⟨s.toNat, by omega⟩
          rw [if_neg h5, show ((a : Int)).toNat = a by omega] at HV
          have f4 := ofInt_nat a (by omega)
          have hq := quo_mean (n := a) (d := n) (by omega) hn (by omega)
          have hrun := fun W => run_float_arith (P := Tryz.prog) W .quo 151 .f32 _ _ _ hq
          clear hq
          go_wp2_with fail
          go_ret
          refine ⟨?_, (Below.refl _ w).alloc (Nat.le_refl _) _⟩
          rw [unhide HV]
          rfl
      | false =>
        have g3 : ¬ kind = meanT := by simpa [meanT] using t3
        have HV := hide (show valS kind span n b s = fB n 1 by unfold valS; rw [if_neg g1, if_neg g2, if_neg g3])
        go_wp2_with fail
        go_ret
        refine ⟨?_, (Below.refl _ w).alloc (Nat.le_refl _) _⟩
        rw [unhide HV, ← f1]
        rfl

end Go.Proofs.YtbljamcdaoofbaaGreatDoor

/- The bits of a float, as the program asks for them. -/
namespace Go.Proofs.YtbljamcdaoofbaaGreatDoor
open Go.RowKit

theorem bits_run (b : Nat) (w : World) :
    (callFunc 86 #[.float .f32 b]).run Tryz.prog w = .ok (.value (.int .u32 b)) w := by
  rw [run_callFunc_extern (e := Extern.MathFloatBits.float32bits) Tryz.func86 (by kernel_rfl) (by kernel_rfl) (by kernel_rfl) (by kernel_rfl)]
  rfl

end Go.Proofs.YtbljamcdaoofbaaGreatDoor

/- The program's search for a group by its key. -/
namespace Go.Proofs.YtbljamcdaoofbaaGreatDoor
open Go.RowKit

/-- a group -/
structure Grp where
  key : List UInt8
  n : Nat
  b : Nat
  s : Int

def cellsG (g : Grp) : List Value := [SV g.key, .int .i64 g.n, .int .i64 g.b, .int .i64 g.s]
def GRise (gs : List Grp) : Prop := gs.Pairwise (fun a b => Op.bytesLess a.key b.key = true)

theorem cellsG_at (L : List Grp) (k : Nat) (h : k < L.length) : (L.flatMap cellsG)[k * 4]? = some (SV L[k].key) ∧ (L.flatMap cellsG)[k * 4 + 1]? = some (.int .i64 L[k].n) ∧ (L.flatMap cellsG)[k * 4 + 2]? = some (.int .i64 L[k].b) ∧ (L.flatMap cellsG)[k * 4 + 3]? = some (.int .i64 L[k].s) := by
  induction L generalizing k with
  | nil => simp at h
  | cons x S ih =>
    rw [List.flatMap_cons]
    cases k with
    | zero => simp [cellsG]
    | succ k =>
      have := ih k (by simpa using h)
      simp only [cellsG, List.cons_append, List.nil_append, Nat.add_mul, Nat.one_mul, List.getElem?_cons_succ, List.getElem_cons_succ] at this ⊢
      exact this

theorem grp_flat_len (L : List Grp) : (L.flatMap cellsG).length = L.length * 4 := by
  induction L with
  | nil => rfl
  | cons x S ih => rw [List.flatMap_cons, List.length_append, ih, List.length_cons]; simp [cellsG]; omega

/-- the place among rising keys -/
def gplace (gs : List Grp) (l : List UInt8) : Nat := (gs.filter (fun g => Op.bytesLess g.key l)).length

theorem gplace_split {gs : List Grp} (l : List UInt8) (r : Nat) (hr : r ≤ gs.length) (h1 : ∀ j (hj : j < gs.length), j < r → Op.bytesLess gs[j].key l = true) (h2 : ∀ j (hj : j < gs.length), r ≤ j → Op.bytesLess gs[j].key l = false) : gplace gs l = r := by
  unfold gplace
  rw [← List.take_append_drop r gs, List.filter_append]
  have e1 : (gs.take r).filter (fun g => Op.bytesLess g.key l) = gs.take r := by
    rw [List.filter_eq_self]
    intro n hn
    obtain ⟨j, hj, rfl⟩ := List.getElem_of_mem hn
    simp only [List.length_take] at hj
    rw [List.getElem_take]
    exact h1 j (by omega) (by omega)
  have e2 : (gs.drop r).filter (fun g => Op.bytesLess g.key l) = [] := by
    rw [List.filter_eq_nil_iff]
    intro n hn
    obtain ⟨j, hj, rfl⟩ := List.getElem_of_mem hn
    simp only [List.length_drop] at hj
    rw [List.getElem_drop, h2 (r + j) (by omega) (by omega)]
    simp
  rw [e1, e2]
  simp; omega

theorem gless_mono {gs : List Grp} (h : GRise gs) {l : List UInt8} {i j : Nat} (hij : i ≤ j) (hj : j < gs.length) (hl : Op.bytesLess gs[j].key l = true) : Op.bytesLess (gs[i]'(by omega)).key l = true := by
  rcases Nat.lt_or_eq_of_le hij with hlt | rfl
  · have := List.pairwise_iff_getElem.1 h i j (by omega) hj hlt
    exact less_trans this hl
  · exact hl

theorem gcmp_any (g : Grp) (l : List UInt8) (w : World) :
    Calls Tryz.prog 114 #[.agg #[SV g.key, .int .i64 g.n, .int .i64 g.b, .int .i64 g.s], .string ⟨l.toArray⟩] w fun e w' => e = .returned (.int .i64 (Lib.compareBytes g.key l)) ∧ Below w.heap.size w w' := by
  go_enter Tryz.func114, Tryz.ntmps114
  go_wp2_with fail
  refine (compare_any g.key l _).mono ?_
  rintro e w2 ⟨rfl, hww⟩
  rw [hww]
  clear hww w2
  go_wp2
  go_ret
  exact ⟨rfl, (Below.refl _ w).alloc (Nat.le_refl _) _⟩

set_option maxRecDepth 10000 in
set_option maxHeartbeats 2000000 in
theorem gsearch_any {w : World} {base : Nat} {gs : List Grp} {va : Value} (l : List UInt8) (h : w.ownsRow base 148 4 va gs.length (gs.flatMap cellsG)) (hn : gs.length ≤ 300) (hs : GRise gs) :
    Calls Tryz.prog 113 #[va, .string ⟨l.toArray⟩, .func (.func 114) #[] #[]] w fun e w' =>
      e = .returned (.tuple #[.int .i64 (gplace gs l), .bool (decide (∃ g ∈ gs, g.key = l))]) ∧ Below w.heap.size w w' := by
  obtain ⟨ao, cap, rfl, hnc, hcm, hnil, hao, hcell, hfz⟩ := owns_form h
  have HN := hide hnil
  have HA := hide hao
  have HC := hide hcell
  have HS := hide hs
  clear hnil hao hcell hfz hs h
  unfold maxLen at hcm
  go_enter Tryz.func113, Tryz.ntmps113
  go_wp2
  go_loopw [9, 10, 11] (fun i j _ wr => Hid (Below w.heap.size w wr) ∧ ∃ a b : Nat, a ≤ b ∧ b ≤ gs.length ∧ i = .int .i64 a ∧ j = .int .i64 b ∧ (∀ k (hk : k < gs.length), k < a → Op.bytesLess gs[k].key l = true) ∧ (∀ k (hk : k < gs.length), b ≤ k → Op.bytesLess gs[k].key l = false)) (fun i j _ _ => (intOf j).toNat - (intOf i).toNat)
  case atStart => exact ⟨hide (Below.refl _ _), 0, gs.length, by omega, by omega, rfl, rfl, fun k _ h => by omega, fun k hk h => by omega⟩
  case round =>
    obtain ⟨HB, a, b, hab, hb, rfl, rfl, h1, h2⟩ := hrel
    have H1 := hide h1
    have H2 := hide h2
    clear h1 h2
    by_cases hlt : a < b
    · obtain ⟨⟨g, o, sp⟩, rfl⟩ : ∃ a, ao = some a := by
        cases ao with
        | none => have := (unhide HN rfl).1; omega
        | some a => exact ⟨a, rfl⟩
      obtain ⟨ho, hsp, -, hgw⟩ := unhide HA _ rfl
      simp only at ho hsp hgw
      subst ho hsp
      go_upto_region 5 with fail
      obtain ⟨hm1, hm2⟩ := mid_bounds hlt
      rw [show ((a : Int) + (b : Int)) / 2 = (((a + b) / 2 : Nat) : Int) by omega]
      generalize (a + b) / 2 = m at *
      have hml : m < gs.length := by omega
      obtain ⟨e0, e1, e2, e3⟩ := cellsG_at gs m hml
      have m0 := (((unhide HB).cell (p := ⟨g, m * 4, none⟩) hgw).trans (unhide HC _ rfl _ (by omega))).trans e0
      have m1 := (((unhide HB).cell (p := ⟨g, m * 4 + 1, none⟩) hgw).trans (unhide HC _ rfl _ (by omega))).trans e1
      have m2 := (((unhide HB).cell (p := ⟨g, m * 4 + 2, none⟩) hgw).trans (unhide HC _ rfl _ (by omega))).trans e2
      have m3 := (((unhide HB).cell (p := ⟨g, m * 4 + 3, none⟩) hgw).trans (unhide HC _ rfl _ (by omega))).trans e3
      clear e0 e1 e2 e3
      obtain ⟨hcmp, hcmp0⟩ := compare_less gs[m].key l
      have HCM := hide hcmp
      have hgc := gcmp_any gs[m] l wr
      have hszr := (unhide HB).size
      have hmi : (m : Int) < (gs.length : Int) := by omega
      clear hcmp hcmp0
      cases hless : Op.bytesLess gs[m].key l
      · have hge : ¬ Lib.compareBytes gs[m].key l < 0 := fun h => by rw [(unhide HCM).1 h] at hless; cases hless
        have HLS := hide hless
        clear hless
        go_wp2_with fail
        refine hgc.mono ?_
        rintro e w3 ⟨rfl, hb3⟩
        clear hgc
        have HB3 := hide ((unhide HB).trans (hb3.mono hszr))
        clear hb3
        go_wp2_with fail
        go_roundw
        case rel =>
          refine ⟨HB3, a, m, by omega, by omega, rfl, rfl, unhide H1, fun k hk hmk => ?_⟩
          rw [Bool.eq_false_iff]
          intro hl
          have := gless_mono (unhide HS) hmk hk hl
          rw [unhide HLS] at this
          cases this
        case measure => simp [intOf]; omega
      · have hge : Lib.compareBytes gs[m].key l < 0 := (unhide HCM).2 hless
        have HLS := hide hless
        clear hless
        go_wp2_with fail
        refine hgc.mono ?_
        rintro e w3 ⟨rfl, hb3⟩
        clear hgc
        have HB3 := hide ((unhide HB).trans (hb3.mono hszr))
        clear hb3
        go_wp2_with fail
        go_roundw
        case rel =>
          refine ⟨HB3, m + 1, b, by omega, by omega, by go_num, rfl, fun k hk hkm => ?_, unhide H2⟩
          exact gless_mono (unhide HS) (by omega) hml (unhide HLS)
        case measure => simp [intOf]; omega
    · have he : a = b := by omega
      subst he
      have hpl : gplace gs l = a := gplace_split l a hb (unhide H1) (unhide H2)
      have HPL := hide hpl
      clear hpl
      by_cases hal : a < gs.length
      · obtain ⟨⟨g, o, sp⟩, rfl⟩ : ∃ a, ao = some a := by
          cases ao with
          | none => have := (unhide HN rfl).1; omega
          | some a => exact ⟨a, rfl⟩
        obtain ⟨ho, hsp, -, hgw⟩ := unhide HA _ rfl
        simp only at ho hsp hgw
        subst ho hsp
        obtain ⟨e0, e1, e2, e3⟩ := cellsG_at gs a hal
        have m0 := (((unhide HB).cell (p := ⟨g, a * 4, none⟩) hgw).trans (unhide HC _ rfl _ (by omega))).trans e0
        have m1 := (((unhide HB).cell (p := ⟨g, a * 4 + 1, none⟩) hgw).trans (unhide HC _ rfl _ (by omega))).trans e1
        have m2 := (((unhide HB).cell (p := ⟨g, a * 4 + 2, none⟩) hgw).trans (unhide HC _ rfl _ (by omega))).trans e2
        have m3 := (((unhide HB).cell (p := ⟨g, a * 4 + 3, none⟩) hgw).trans (unhide HC _ rfl _ (by omega))).trans e3
        clear e0 e1 e2 e3
        have hgc := gcmp_any gs[a] l wr
        have hszr := (unhide HB).size
        have hai : (a : Int) < (gs.length : Int) := by omega
        go_wp2_with fail
        refine hgc.mono ?_
        rintro e w3 ⟨rfl, hb3⟩
        clear hgc
        have HB3 := hide ((unhide HB).trans (hb3.mono hszr))
        clear hb3
        go_wp2_with fail
        go_ret2
        refine ⟨?_, unhide HB3⟩
        rw [unhide HPL]
        have hd : (Lib.compareBytes gs[a].key l == 0) = decide (∃ g ∈ gs, g.key = l) := by
          rw [Bool.eq_iff_iff, beq_iff_eq, (compare_less gs[a].key l).2, decide_eq_true_iff]
          constructor
          · intro h; exact ⟨_, List.getElem_mem hal, h⟩
          · rintro ⟨n, hnm, hl⟩
            obtain ⟨j, hj, rfl⟩ := List.getElem_of_mem hnm
            rcases Nat.lt_trichotomy j a with h | h | h
            · have := unhide H1 j hj h
              rw [hl, less_irrefl] at this
              cases this
            · subst h; exact hl
            · have h3 := List.pairwise_iff_getElem.1 (unhide HS) a j hal hj h
              rw [hl, unhide H2 a hal (Nat.le_refl _)] at h3
              cases h3
        rw [← hd]
        rfl
      · go_wp2
        go_ret2
        refine ⟨?_, unhide HB⟩
        rw [unhide HPL]
        have hd : decide (∃ g ∈ gs, g.key = l) = false := by
          rw [decide_eq_false_iff_not]
          rintro ⟨n, hnm, hl⟩
          obtain ⟨j, hj, rfl⟩ := List.getElem_of_mem hnm
          have := unhide H1 j hj (by omega)
          rw [hl, less_irrefl] at this
          cases this
        rw [hd]
        rfl

end Go.Proofs.YtbljamcdaoofbaaGreatDoor

/- slices.Insert of one group. -/
namespace Go.Proofs.YtbljamcdaoofbaaGreatDoor
open Go.RowKit

theorem infoG : (Tryz.prog.info? 148).map (fun i => (i.zero, i.size, i.bytes)) = some (some (.agg #[.string ByteArray.empty, .int .i64 0, .int .i64 0, .int .i64 0]), 4, 40) := by kernel_rfl

theorem spl_shift_many {cur : Array Value} {xs ys : List Value} {N K s : Nat} (hx : cur.toList.take N = xs) (hy : ys.length = s) (hn : N + s ≤ cur.size) (hK : K ≤ N) :
    (spl (spl cur (K + s) (xs.drop K)) K ys).toList.take (N + s) = xs.take K ++ ys ++ xs.drop K := by
  have hl : xs.length = N := by rw [← hx]; simp; omega
  have e1 : (spl cur (K + s) (xs.drop K)).toList = cur.toList.take (K + s) ++ (xs.drop K ++ cur.toList.drop (K + s + (xs.drop K).length)) := by simp [spl]
  have hT : (cur.toList.take (K + s)).length = K + s := by simp; omega
  have e2 : (spl (spl cur (K + s) (xs.drop K)) K ys).toList = xs.take K ++ (ys ++ (xs.drop K ++ cur.toList.drop (K + s + (xs.drop K).length))) := by
    simp only [spl, List.toList_toArray] at e1 ⊢
    rw [e1]
    rw [List.take_append_of_le_length (by omega), List.take_take, Nat.min_eq_left (by omega)]
    rw [hy, List.drop_append_of_le_length (by omega), List.drop_of_length_le (by omega), List.nil_append]
    rw [← hx, List.take_take, Nat.min_eq_left (by omega), List.append_assoc]
  rw [e2]
  have e3 : xs.take K ++ (ys ++ (xs.drop K ++ cur.toList.drop (K + s + (xs.drop K).length))) = (xs.take K ++ ys ++ xs.drop K) ++ cur.toList.drop (K + s + (xs.drop K).length) := by simp
  rw [e3]
  have hlen : (xs.take K ++ ys ++ xs.drop K).length = N + s := by simp; omega
  rw [← hlen]
  exact List.take_left

theorem spl_grown_many {cur : Array Value} {xs ys : List Value} {N K s : Nat} (hl : xs.length = N) (hy : ys.length = s) (hx : cur.toList.take K = xs.take K) (hK : K ≤ N) :
    (spl (spl cur K ys) (K + s) (xs.drop K)).toList.take (N + s) = xs.take K ++ ys ++ xs.drop K := by
  have e1 : (spl cur K ys).toList = xs.take K ++ ys ++ cur.toList.drop (K + s) := by simp [spl, hx, hy]
  have hT : (xs.take K ++ ys).length = K + s := by simp; omega
  have e2 : (spl (spl cur K ys) (K + s) (xs.drop K)).toList = xs.take K ++ ys ++ (xs.drop K ++ (spl cur K ys).toList.drop (K + s + (xs.drop K).length)) := by
    simp only [spl, List.toList_toArray] at e1 ⊢
    rw [e1, List.take_append_of_le_length (by omega), List.take_of_length_le (by omega), List.append_assoc (xs.take K ++ ys)]
  rw [e2, ← List.append_assoc]
  have hlen : (xs.take K ++ ys ++ xs.drop K).length = N + s := by simp; omega
  rw [← hlen]
  exact List.take_left

theorem box_cells {w : World} {gv : Nat} {ys : List Value} {t : TypeId} (hgv : w.heap[gv]? = some (.cells ys.toArray t (0, 0))) : ∀ j v, ys[j]? = some v → w.cell? ((⟨gv, 0, none⟩ : Addr).add j) = some v :=
  row_cells hgv 0 ys (by intro j v hj; rw [Nat.zero_add, List.getElem?_toArray]; exact hj)

def InsP (w : World) (va : Value) (n k : Nat) (xs ys : List Value) (e : Ending) (w' : World) : Prop :=
  ∃ v', e = .returned v' ∧ w'.ownsRow 0 148 4 v' (n + 1) (xs.take (k * 4) ++ ys ++ xs.drop (k * 4)) ∧ w.grownBy w' va.ownBlock ∧ (∀ g, v'.ownBlock = some g → va.ownBlock = some g ∨ w.heap.size ≤ g)

set_option maxRecDepth 10000 in
set_option maxHeartbeats 1000000 in
theorem ginsert_end {w : World} {va : Value} {n gv : Nat} {xs ys : List Value} (h : w.ownsRow 0 148 4 va n xs) (hgv : w.heap[gv]? = some (.cells ys.toArray 148 (0, 0))) (hl : ys.length = 4) (hy : ∀ u ∈ ys, u.oneCell' = true) (hn : n ≤ 300) :
    Calls Tryz.prog 115 #[va, .int .i64 n, .slice (some ⟨gv, 0, none⟩) 1 1] w (InsP w va n n xs ys) := by
  obtain ⟨i0, hi0, hz0, hs0, hb0⟩ := info_parts infoG
  have hxl : xs.length = n * 4 := by have := h.1; omega
  obtain ⟨ao, cap, rfl, hnc, hcm, hnil, hao, hcell, hfz⟩ := owns_form h
  unfold maxLen at hcm
  have hsrc := box_cells hgv
  have HX := hide (show xs.take (n * 4) ++ ys ++ xs.drop (n * 4) = xs ++ ys by rw [List.take_of_length_le (by omega), List.drop_of_length_le (by omega), List.append_nil])
  have hcase : ao = none ∨ ∃ g, ao = some ⟨g, 0, none⟩ := by
    cases ao with
    | none => exact .inl rfl
    | some a =>
      obtain ⟨g, o, sp⟩ := a
      obtain ⟨ho, hsp, -, -⟩ := hao _ rfl
      simp only at ho hsp
      subst ho hsp
      exact .inr ⟨g, rfl⟩
  have HN := hide hnil
  clear hcell hao hnil hfz
  rcases hcase with rfl | ⟨g, rfl⟩
  · obtain ⟨rfl, rfl⟩ := unhide HN rfl
    go_enter Tryz.func115, Tryz.ntmps115
    go_wp2_with (at_builtin; refine wpList_append_at _ rfl (.tmp 23) (.tmp 24) 137 rfl 0 148 i0 _ 4 40 Tryz.underlying137 hi0 hz0 hs0 hb0 rfl (by decide) _ _ _ rfl h (some ⟨gv, 0, none⟩) 1 1 ys rfl (by omega) (by intro e; cases e) (by rintro a ⟨⟩; exact hsrc) hy (by unfold maxLen; omega) (by omega) (Nat.zero_le _) ?_; intro v4 w4 hown4 hgrow4 hwh4)
    go_ret
    refine ⟨v4, rfl, by rw [unhide HX]; simpa using hown4, hgrow4, fun g' hg' => ?_⟩
    rcases hwh4 with hw | hw
    · exact .inl (hw ▸ hg')
    · right; rw [hg'] at hw; simp at hw; omega
  · go_enter Tryz.func115, Tryz.ntmps115
    go_wp2_with (at_builtin; refine wpList_append_at _ rfl (.tmp 23) (.tmp 24) 137 rfl 0 148 i0 _ 4 40 Tryz.underlying137 hi0 hz0 hs0 hb0 rfl (by decide) _ _ _ rfl h (some ⟨gv, 0, none⟩) 1 1 ys rfl (by omega) (by intro e; cases e) (by rintro a ⟨⟩; exact hsrc) hy (by unfold maxLen; omega) (by omega) (Nat.zero_le _) ?_; intro v4 w4 hown4 hgrow4 hwh4)
    all_goals
      go_ret
      refine ⟨v4, rfl, by rw [unhide HX]; exact hown4, hgrow4, fun g' hg' => ?_⟩
      rcases hwh4 with hw | hw
      · exact .inl (hw ▸ hg')
      · right; rw [hg'] at hw; simp at hw; omega

theorem goverlaps_no {w : World} {gv g : Nat} {ys : List Value} {cur : Array Value} (hgv : w.heap[gv]? = some (.cells ys.toArray 148 (0, 0))) (hl : ys.length = 4) (hg : w.heap[g]? = some (.cells cur 148 (0, 0))) (hne : gv ≠ g) (hc : cur.size ≠ 0) (off lb cb : Nat) :
    (callFunc 140 #[.slice (some ⟨gv, 0, none⟩) 1 1, .slice (some ⟨g, off, none⟩) lb cb]).run Tryz.prog w = .ok (.value (.bool false)) w := by
  obtain ⟨i0, hi0, hz0, hs0, hb0⟩ := info_parts infoG
  rw [run_callFunc_extern Tryz.func140 (by kernel_rfl) (by kernel_rfl) (by kernel_rfl) (e := Extern.SlicesOverlaps.overlaps #[137, 137] #[4]) (by kernel_rfl),
    Lib.run_overlaps_apart w 137 4 148 Tryz.underlying137 4 (fun w => by simp [sizeOf, typeInfo, hi0, hs0]) ⟨gv, 0, none⟩ ⟨g, off, none⟩ 1 1 lb cb hne 148 148 4 cur.size (by simp [World.shape?, hgv, hl]) (by simp [World.shape?, hg]) hc (by simp [World.frozen?, hgv]) (by simp [World.frozen?, hgv])]
  rfl

set_option maxRecDepth 10000 in
set_option maxHeartbeats 2000000 in
theorem ginsert_shift {w : World} {n k g cap gv : Nat} {xs ys : List Value} (h : w.ownsRow 0 148 4 (.slice (some ⟨g, 0, none⟩) n cap) n xs) (hgv : w.heap[gv]? = some (.cells ys.toArray 148 (0, 0))) (hl : ys.length = 4) (hne : gv ≠ g) (hy : ∀ u ∈ ys, u.oneCell' = true) (hxs : ∀ u ∈ xs, u.oneCell' = true) (hn : n ≤ 300) (hk : k < n) (hroom : n + 1 ≤ cap) :
    Calls Tryz.prog 115 #[.slice (some ⟨g, 0, none⟩) n cap, .int .i64 k, .slice (some ⟨gv, 0, none⟩) 1 1] w (InsP w (.slice (some ⟨g, 0, none⟩) n cap) n k xs ys) := by
  obtain ⟨i0, hi0, hz0, hs0, hb0⟩ := info_parts infoG
  have hsz : (Tryz.prog.info? 148).map (·.size) = some 4 := by rw [hi0]; simp [hs0]
  obtain ⟨cur, hg, hcm, hcs, htk⟩ : ∃ cur : Array Value, w.heap[g]? = some (.cells cur 148 (0, 0)) ∧ cap ≤ maxLen ∧ cur.size = cap * 4 ∧ cur.toList.take (n * 4) = xs := by
    rcases h.2 with ⟨h', _⟩ | ⟨g', cap', cur, h', _, hg, _, hcm, hcs, ht⟩
    · simp at h'
    · simp only [Value.slice.injEq, Option.some.injEq, Addr.mk.injEq, and_true, true_and] at h'
      obtain ⟨rfl, rfl⟩ := h'
      exact ⟨cur, hg, hcm, by simpa using hcs, by simpa using ht⟩
  unfold maxLen at hcm
  have hxl : xs.length = n * 4 := by have := h.1; omega
  have hov := fun off lb cb => goverlaps_no hgv hl hg hne (by omega) off lb cb
  have hk0 : ¬ (cap = k) := by omega
  have hk1 : ¬ (cap = k + 1) := by omega
  have hkn : ((k : Int) == (n : Int)) = false := by simp; omega
  have hw1 : IntKind.i64.wrap ((k : Int) + 1) = (k : Int) + 1 := by rw [IntKind.wrap_i64]; omega
  have hb1 : (0 : Int) ≤ (k : Int) + 1 := by omega
  have htn : ((k : Int) + 1).toNat = k + 1 := by omega
  have hb3 : (k : Int) ≤ (n : Int) + 1 := by omega
  have hb4 : (k : Int) + 1 ≤ (n : Int) + 1 := by omega
  have hsrc1 := row_cells hg (k * 4) (xs.drop (k * 4)) (by
    intro j v hj
    rw [List.getElem?_drop] at hj
    have hlt : k * 4 + j < xs.length := (List.getElem?_eq_some_iff.1 hj).1
    have e : cur.toList[k * 4 + j]? = xs[k * 4 + j]? := by rw [← htk, List.getElem?_take, if_pos (by omega)]
    rw [← hj, ← e]
    simp)
  have H := hide h
  have HX := hide htk
  clear h htk
  go_enter Tryz.func115, Tryz.ntmps115
  go_wp2
  have hdl : (xs.drop (k * 4)).length = (n - k) * 4 := by rw [List.length_drop, hxl]; omega
  have hmin1 : Nat.min (n + 1 - k) (n - k) = n - k := by simp only [Nat.min_def]; split <;> omega
  have hmin2 : Nat.min 1 (n + 1 - k) = 1 := by simp only [Nat.min_def]; split <;> omega
  go_region_law (refine step_copy_many rfl (.tmp 73) (.tmp 76) 137 137 rfl 148 4 Tryz.underlying137 hsz g ((k + 1) * 4) (n - k) (cap - (k + 1)) ⟨g, k * 4, none⟩ (n + 1 - k) (cap - k) (by simp [Act.eval, Act.put]) (by simp [Act.eval, Act.put]) cur 148 (by exact hg) (xs.drop (k * 4)) (by rw [hdl, hmin1]) (by exact hsrc1) (by rw [hdl]; omega) (fun u hu => hxs u (List.mem_of_mem_drop hu)) ?_; intro w4 hg4 hgr4)
  have hgvl : gv < w.heap.size := (Array.getElem?_eq_some_iff.1 hgv).1
  have hgv4 : w4.heap[gv]? = some (.cells ys.toArray 148 (0, 0)) := by
    rw [hgr4.block gv (by exact hgvl) (fun e => hne (by simpa using e))]
    exact hgv
  have hsrc2 := box_cells hgv4
  have hs4 : (spl cur ((k + 1) * 4) (xs.drop (k * 4))).size = cap * 4 := by rw [size_spl _ _ _ (by rw [hdl]; omega), hcs]
  have HG4 := hide hgr4
  clear hgr4 hsrc1 hov hgv
  go_wp2_with (refine wpList_copy_many _ rfl (.tmp 80) (.tmp 81) 137 137 rfl 148 4 Tryz.underlying137 hsz g (k * 4) (n + 1 - k) (cap - k) ⟨gv, 0, none⟩ 1 1 rfl rfl (spl cur ((k + 1) * 4) (xs.drop (k * 4))) 148 hg4 ys (by rw [hl, hmin2]) hsrc2 (by rw [hl]; omega) hy ?_; intro w5 hg5 hgr5; clear hg4)
  go_ret
  refine ⟨_, rfl, ⟨by simp [hxl, hl]; omega, .inr ⟨g, cap, _, rfl, Nat.zero_le _, hg5, hroom, by unfold maxLen; omega, ?_, ?_⟩⟩, ?_, ?_⟩
  · rw [size_spl _ _ _ (by rw [hl]; omega), hs4]
  · rw [show (n + 1) * 4 = n * 4 + 4 by omega, show (k + 1) * 4 = k * 4 + 4 by omega]
    exact spl_shift_many (unhide HX) hl (by omega) (by omega)
  · have g4 := unhide HG4
    exact ⟨hgr5.os.trans g4.os, hgr5.tape.trans g4.tape, hgr5.output.trans g4.output, Nat.le_trans g4.size hgr5.size, fun j hj hne' => (hgr5.block j (Nat.lt_of_lt_of_le hj g4.size) hne').trans (g4.block j hj hne')⟩
  · intro g' hg'
    left
    simpa [Value.ownBlock] using hg'

set_option maxRecDepth 10000 in
set_option maxHeartbeats 2000000 in
theorem ginsert_grow {w : World} {n k g cap gv : Nat} {xs ys : List Value} (h : w.ownsRow 0 148 4 (.slice (some ⟨g, 0, none⟩) n cap) n xs) (hgv : w.heap[gv]? = some (.cells ys.toArray 148 (0, 0))) (hl : ys.length = 4) (hy : ∀ u ∈ ys, u.oneCell' = true) (hxs : ∀ u ∈ xs, u.oneCell' = true) (hn : n ≤ 300) (hk : k < n) (hroom : ¬ n + 1 ≤ cap) :
    Calls Tryz.prog 115 #[.slice (some ⟨g, 0, none⟩) n cap, .int .i64 k, .slice (some ⟨gv, 0, none⟩) 1 1] w (InsP w (.slice (some ⟨g, 0, none⟩) n cap) n k xs ys) := by
  obtain ⟨i0, hi0, hz0, hs0, hb0⟩ := info_parts infoG
  have hsz : (Tryz.prog.info? 148).map (·.size) = some 4 := by rw [hi0]; simp [hs0]
  obtain ⟨cur, hg, hnc, hcm, hcs, htk⟩ : ∃ cur : Array Value, w.heap[g]? = some (.cells cur 148 (0, 0)) ∧ n ≤ cap ∧ cap ≤ maxLen ∧ cur.size = cap * 4 ∧ cur.toList.take (n * 4) = xs := by
    rcases h.2 with ⟨h', _⟩ | ⟨g', cap', cur, h', _, hg, hnc, hcm, hcs, ht⟩
    · simp at h'
    · simp only [Value.slice.injEq, Option.some.injEq, Addr.mk.injEq, and_true, true_and] at h'
      obtain ⟨rfl, rfl⟩ := h'
      exact ⟨cur, hg, hnc, hcm, by simpa using hcs, by simpa using ht⟩
  have hcn : cap = n := by omega
  subst hcn
  unfold maxLen at hcm
  have hxl : xs.length = cap * 4 := by have := h.1; omega
  have hgl : g < w.heap.size := (Array.getElem?_eq_some_iff.1 hg).1
  have hgvl : gv < w.heap.size := (Array.getElem?_eq_some_iff.1 hgv).1
  have hk0 : ¬ (cap = k) := by omega
  have hkn : ((k : Int) == (cap : Int)) = false := by simp; omega
  have hsrc0 := row_cells hg 0 (xs.take (k * 4)) (by
    intro j v hj
    have hlt : j < k * 4 := by have := (List.getElem?_eq_some_iff.1 hj).1; simp at this; omega
    rw [List.getElem?_take, if_pos hlt] at hj
    have e : cur.toList[j]? = xs[j]? := by rw [← htk, List.getElem?_take, if_pos (by omega)]
    rw [Nat.zero_add, ← hj, ← e]
    simp)
  have hcur : ∀ j v, (xs.drop (k * 4))[j]? = some v → cur[k * 4 + j]? = some v := by
    intro j v hj
    rw [List.getElem?_drop] at hj
    have hlt : k * 4 + j < xs.length := (List.getElem?_eq_some_iff.1 hj).1
    have e : cur.toList[k * 4 + j]? = xs[k * 4 + j]? := by rw [← htk, List.getElem?_take, if_pos (by omega)]
    rw [← hj, ← e]
    simp
  have HCU := hide hcur
  clear h htk hcur
  go_enter Tryz.func115, Tryz.ntmps115
  go_upto_region 10 with (at_builtin; refine wpList_append_zeros_many _ rfl (.tmp 34) (.tmp 39) 137 3 rfl 148 i0 (.agg #[.string ByteArray.empty, .int .i64 0, .int .i64 0, .int .i64 0]) 4 Tryz.underlying137 Tryz.underlying3 hi0 hz0 hs0 (by decide) rfl ⟨g, 0, none⟩ k cap (cap + 1 - k) (xs.take (k * 4)) (by rw [List.length_take]; omega) hsrc0 rfl _ (by omega) rfl (by omega) (by omega) (by unfold maxLen; omega) (by rw [hb0]; omega) ?_; intro w1 G ROW hr1 hG hGm hRs hRt hgr1)
  have hkk : k + (cap + 1 - k) = cap + 1 := by omega
  rw [hkk] at hG ⊢
  clear hkk
  unfold maxLen at hGm
  have hG0 : ¬ (G = k) := by omega
  have hG1 : ¬ (G = k + 1) := by omega
  have hw1 : IntKind.i64.wrap ((k : Int) + 1) = (k : Int) + 1 := by rw [IntKind.wrap_i64]; omega
  have hb1 : (0 : Int) ≤ (k : Int) + 1 := by omega
  have htn : ((k : Int) + 1).toNat = k + 1 := by omega
  have hb3 : (k : Int) ≤ (cap : Int) + 1 := by omega
  have hb4 : (k : Int) + 1 ≤ (cap : Int) + 1 := by omega
  have hb5 : (k : Int) ≤ (cap : Int) := by omega
  have hgv1 : w1.heap[gv]? = some (.cells ys.toArray 148 (0, 0)) := by rw [hgr1.block gv hgvl (by simp)]; exact hgv
  have hg1 : w1.heap[g]? = some (.cells cur 148 (0, 0)) := by rw [hgr1.block g hgl (by simp)]; exact hg
  have hsrc2 := box_cells hgv1
  have hdl : (xs.drop (k * 4)).length = (cap - k) * 4 := by rw [List.length_drop, hxl]; omega
  have hmin1 : Nat.min (cap - k) (cap - k) = cap - k := by simp only [Nat.min_def]; split <;> omega
  have hmin2 : Nat.min 1 (cap + 1 - k) = 1 := by simp only [Nat.min_def]; split <;> omega
  have HG1 := hide hgr1
  have HRT := hide hRt
  have hgN : g ≠ w.heap.size := by omega
  clear hgr1 hgv hsrc0 hRt hg
  go_upto_region 11 with (refine wpList_copy_many _ rfl (.tmp 43) (.tmp 44) 137 137 rfl 148 4 Tryz.underlying137 hsz w.heap.size (k * 4) (cap + 1 - k) (G - k) ⟨gv, 0, none⟩ 1 1 rfl rfl ROW 148 hr1 ys (by rw [hl, hmin2]) hsrc2 (by rw [hl]; omega) hy ?_; intro w2 hr2 hgr2)
  have hg2 : w2.heap[g]? = some (.cells cur 148 (0, 0)) := by
    rw [hgr2.block g (Nat.lt_of_lt_of_le hgl (unhide HG1).size) (fun e => hgN (by simpa using e))]; exact hg1
  have hsrc3 := row_cells hg2 (k * 4) (xs.drop (k * 4)) (unhide HCU)
  have hs2 : (spl ROW (k * 4) ys).size = G * 4 := by rw [size_spl _ _ _ (by rw [hl]; omega), hRs]
  have HG2 := hide hgr2
  clear hgr2 hsrc2 hr1 hg1 hgv1
  go_region_law (refine step_copy_many rfl (.tmp 50) (.tmp 53) 137 137 rfl 148 4 Tryz.underlying137 hsz w.heap.size ((k + 1) * 4) (cap - k) (G - (k + 1)) ⟨g, k * 4, none⟩ (cap - k) (cap - k) (by simp [Act.eval, Act.put]) (by simp [Act.eval, Act.put]) (spl ROW (k * 4) ys) 148 (by exact hr2) (xs.drop (k * 4)) (by rw [hdl, hmin1]) (by exact hsrc3) (by rw [hdl]; omega) (fun u hu => hxs u (List.mem_of_mem_drop hu)) ?_; intro w3 hr3 hgr3)
  go_wp2
  go_ret
  refine ⟨_, rfl, ⟨by simp [hxl, hl]; omega, .inr ⟨w.heap.size, G, _, rfl, Nat.zero_le _, hr3, by omega, by unfold maxLen; omega, ?_, ?_⟩⟩, ?_, ?_⟩
  · rw [size_spl _ _ _ (by rw [hdl]; omega), hs2]
  · rw [show (cap + 1) * 4 = cap * 4 + 4 by omega, show (k + 1) * 4 = k * 4 + 4 by omega]
    exact spl_grown_many hxl hl (unhide HRT) (by omega)
  · have g1 := unhide HG1
    have g2 := unhide HG2
    refine ⟨hgr3.os.trans (g2.os.trans g1.os), hgr3.tape.trans (g2.tape.trans g1.tape), hgr3.output.trans (g2.output.trans g1.output), Nat.le_trans g1.size (Nat.le_trans g2.size hgr3.size), fun j hj _ => ?_⟩
    have hjN : j ≠ w.heap.size := by omega
    have e1 := g1.block j hj (by simp)
    have e2 := g2.block j (Nat.lt_of_lt_of_le hj g1.size) (fun e => hjN (by simpa using e))
    have e3 := hgr3.block j (Nat.lt_of_lt_of_le hj (Nat.le_trans g1.size g2.size)) (fun e => hjN (by simpa using e))
    exact e3.trans (e2.trans e1)
  · intro g' hg'
    right
    simp [Value.ownBlock] at hg'
    omega

theorem ginsert_any {w : World} {va : Value} {n k gv : Nat} {xs ys : List Value} (h : w.ownsRow 0 148 4 va n xs) (hgv : w.heap[gv]? = some (.cells ys.toArray 148 (0, 0))) (hl : ys.length = 4) (hne : va.ownBlock ≠ some gv) (hy : ∀ u ∈ ys, u.oneCell' = true) (hxs : ∀ u ∈ xs, u.oneCell' = true) (hn : n ≤ 300) (hk : k ≤ n) :
    Calls Tryz.prog 115 #[va, .int .i64 k, .slice (some ⟨gv, 0, none⟩) 1 1] w (InsP w va n k xs ys) := by
  by_cases hkn : k = n
  · subst hkn
    exact ginsert_end h hgv hl hy hn
  · obtain ⟨g, c, rfl, -⟩ := owns_open h (by omega)
    by_cases hroom : n + 1 ≤ c
    · exact ginsert_shift h hgv hl (fun e => hne (by rw [e]; rfl)) hy hxs hn (by omega) hroom
    · exact ginsert_grow h hgv hl hy hxs hn (by omega) hroom

end Go.Proofs.YtbljamcdaoofbaaGreatDoor

/- The reference's key. -/
namespace Go.Proofs.YtbljamcdaoofbaaGreatDoor
open Go.RowKit

/-- the group of a row -/
def keyL (by_ : List UInt8) (r : Rw) : List UInt8 := if by_ = [] then [] else valueL by_ (cutL 44 r.1)

set_option maxRecDepth 10000 in
set_option maxHeartbeats 1000000 in
theorem key_any {w : World} {base qb : Nat} {vM vF : Value} {meas by_ : List UInt8} {span : Int} {bad : Int} {M : List Mch} {Fs : List Flt} (r : Rw) (hq : RQAt w base qb vM vF meas span by_ bad M Fs) (hx : r.1.length ≤ 1048576) :
    Calls Tryz.prog 121 #[.pointer (some ⟨qb, 0, none⟩), .agg #[SV r.1, .int .i64 r.2.1, SV r.2.2]] w fun e w' => e = .returned (SV (keyL by_ r)) ∧ Below w.heap.size w w' := by
  obtain ⟨-, -, -, -, c4, -, -⟩ := rcell6 hq.block
  have hqw := (Array.getElem?_eq_some_iff.1 hq.block).1
  clear hq
  obtain ⟨lab, tm, line⟩ := r
  simp only at hx
  have hva := fun W => value_any lab by_ W hx
  go_enter Tryz.func121, Tryz.ntmps121
  cases hm : (by_ == []) with
  | true =>
    have HK := hide (show keyL by_ (lab, tm, line) = [] by unfold keyL; rw [if_pos (by simpa using hm)])
    clear hva
    go_wp2_with fail
    go_ret
    refine ⟨?_, (Below.refl _ w).alloc (Nat.le_refl _) _⟩
    rw [unhide HK]
    rfl
  | false =>
    have HK := hide (show keyL by_ (lab, tm, line) = valueL by_ (cutL 44 lab) by unfold keyL; rw [if_neg (by simpa using hm)])
    go_upto_region 3 with fail
    go_region_law (go_simp; go_at_call 148; refine (hva _).mono ?_; rintro e w5 ⟨rfl, hb5⟩)
    all_goals
      have HB5 := hide hb5
      clear hb5
      go_wp2_with fail
      go_ret
      refine ⟨?_, ?_⟩
      · rw [unhide HK]
        rfl
      · have h1 := unhide HB5
        refine (show Below w.heap.size w (w.alloc (.cells #[SV lab, .int .i64 tm, SV line] 38)) from (Below.refl _ w).alloc (Nat.le_refl _) _).trans ?_
        have h2 : Below (w.alloc (.cells #[SV lab, .int .i64 tm, SV line] 38)).heap.size (w.alloc (.cells #[SV lab, .int .i64 tm, SV line] 38)) w5 := ⟨h1.os, h1.tape, h1.output, h1.size, h1.block⟩
        have h3 := h2.mono (show w.heap.size ≤ (w.alloc (.cells #[SV lab, .int .i64 tm, SV line] 38)).heap.size by simp)
        repeat (first | exact h3 | apply Below.drew | apply Below.drawn)

end Go.Proofs.YtbljamcdaoofbaaGreatDoor
