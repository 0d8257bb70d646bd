/- Texts PNum, PGAdd, PGFold, PGInv, PGVal, PGKeys, PMNew, joined. -/
import Derived.Test.YtbljamcdaoofbaaGreatDoorFloatWordToMeasSpec
import Derived.Test.YtbljamcdaoofbaaGreatDoorRPutToPGroup
import Derived.Test.YtbljamcdaoofbaaGreatDoorPDropAllToHeap
import Derived.Test.YtbljamcdaoofbaaGreatDoorRefRowsToPRowsAll
/- The program's number of a line. -/
namespace Go.Proofs.YtbljamcdaoofbaaGreatDoor
open Go.RowKit

def dashB (l : List UInt8) : Bool := l.take 1 == [45]
theorem dashB_head (l : List UInt8) : (l.head? = some 45) = (dashB l = true) := by
  unfold dashB
  cases l with
  | nil => simp
  | cons c r => simp
theorem numS_dash (l : List UInt8) : numS l = if dashB l = true then l.drop 1 else l := by
  unfold numS
  simp only [dashB_head]

theorem hasDash_any (l : List UInt8) (w : World) (hl : l.length ≤ 1048576) :
    Calls Tryz.prog 167 #[SV l, SV [45]] w fun e w' => e = .returned (.bool (dashB l)) ∧ w' = w := by
  have hex : Value.string ((⟨l.toArray⟩ : ByteArray).extract 0 1) = SV (l.take 1) := by rw [SV_extract_l]; simp
  have HD := hide (show dashB l = (l.take 1 == [45]) from rfl)
  go_enter Tryz.func167, Tryz.ntmps167
  by_cases h : 1 ≤ l.length
  · have hi : (1 : Int) ≤ (l.length : Int) := by omega
    go_wp2
    go_ret
    refine ⟨?_, rfl⟩
    rw [unhide HD]
    rfl
  · have h0 : l = [] := List.eq_nil_of_length_eq_zero (by omega)
    subst h0
    go_wp2
    go_ret
    exact ⟨rfl, rfl⟩

def CutP (l : List UInt8) (w : World) (e : Ending) (w' : World) : Prop := e = .returned (.tuple #[SV (numS l), .bool (dashB l)]) ∧ w' = w

theorem cutDash0_any (l : List UInt8) (w : World) (hl : l.length ≤ 1048576) :
    Calls Tryz.prog 139 #[SV l, SV [45]] w (CutP l w) := by
  have hex : Value.string ((⟨l.toArray⟩ : ByteArray).extract 1 l.length) = SV (l.drop 1) := by rw [SV_extract_l, List.take_length]
  have hh := hasDash_any l w hl
  have HS := hide (numS_dash l)
  go_enter Tryz.func139, Tryz.ntmps139
  cases hd : dashB l with
  | false =>
    rw [hd] at hh HS
    go_wp2_with fail
    refine hh.mono ?_
    rintro e w' ⟨rfl, hww⟩
    rw [hww]
    clear hww w' hh
    go_wp2_with fail
    go_ret2
    refine ⟨?_, rfl⟩
    rw [unhide HS, hd]
    rfl
  | true =>
    have h1 : 1 ≤ l.length := by
      cases l with
      | nil => simp [dashB] at hd
      | cons c r => simp
    rw [hd] at hh HS
    go_wp2_with fail
    refine hh.mono ?_
    rintro e w' ⟨rfl, hww⟩
    rw [hww]
    clear hww w' hh
    go_wp2_with fail
    go_ret2
    refine ⟨?_, rfl⟩
    rw [unhide HS, hd, if_pos trivial, List.drop_one]
    rfl

theorem cutDash_any (l : List UInt8) (w : World) (hl : l.length ≤ 1048576) :
    Calls Tryz.prog 112 #[SV l, SV [45]] w (CutP l w) := by
  have hh := cutDash0_any l w hl
  unfold CutP at hh
  go_enter Tryz.func112, Tryz.ntmps112
  go_wp2_with fail
  refine hh.mono ?_
  rintro e w' ⟨rfl, hww⟩
  rw [hww]
  clear hww w' hh
  go_wp2_with fail
  go_ret2
  exact ⟨rfl, rfl⟩

/-- the number of digits -/
def decN (s : List UInt8) : Nat := s.foldl (fun n c => 10 * n + (c.toNat - 48)) 0
theorem decN_snoc (s : List UInt8) (k : Nat) (h : k < s.length) : decN (s.take (k + 1)) = 10 * decN (s.take k) + (s[k].toNat - 48) := by
  rw [List.take_succ_eq_append_getElem h, decN, List.foldl_append]
  rfl
theorem spanL_snoc (s : List UInt8) (k : Nat) (h : k < s.length) : spanL (s.take (k + 1)) = min (10 * spanL (s.take k) + (s[k].toNat - 48)) 1000001 := by
  rw [List.take_succ_eq_append_getElem h, spanL, List.foldl_append]
  rfl
theorem dec_span (s : List UInt8) : ∀ k, k ≤ s.length → k ≤ 6 → (∀ j (h : j < s.length), j < k → isD s[j] = true) → decN (s.take k) = spanL (s.take k) ∧ decN (s.take k) < 10 ^ k := by
  intro k
  induction k with
  | zero => intro _ _ _; exact ⟨rfl, by simp [decN]⟩
  | succ k ih =>
    intro h1 h2 h3
    obtain ⟨e, hlt⟩ := ih (by omega) (by omega) (fun j hj hk => h3 j hj (by omega))
    have hd := h3 k (by omega) (by omega)
    simp only [isD, digitB, Bool.and_eq_true, decide_eq_true_eq] at hd
    have hp : 10 ^ (k + 1) ≤ 10 ^ 6 := Nat.pow_le_pow_right (by decide) h2
    have h6 : (10 : Nat) ^ 6 = 1000000 := by decide
    rw [decN_snoc s k (by omega), spanL_snoc s k (by omega), ← e]
    rw [Nat.pow_succ] at hp ⊢
    generalize 10 ^ k = z at *
    generalize decN (s.take k) = d at *
    generalize s[k].toNat = c at *
    omega

set_option maxRecDepth 10000 in
set_option maxHeartbeats 1000000 in
theorem pnumber_any (l : List UInt8) (w : World) (hl : l.length ≤ 1048576) :
    Calls Tryz.prog 84 #[SV l] w (NumP l w) := by
  have hc := cutDash_any l w hl
  unfold CutP at hc
  have HV := hide (show numB l = false → numV l = 0 from numV_zero)
  have HT := hide (fun hb => numV_of (l := l) (s := numS l) rfl (dashB l) (dashB_head l) hb)
  have HBd := hide (show numB l = ((numS l).all isD && decide (1 ≤ (numS l).length) && decide ((numS l).length ≤ 6)) from rfl)
  go_enter Tryz.func84, Tryz.ntmps84
  generalize numS l = s at *
  generalize dashB l = neg at *
  go_wp2_with fail
  refine hc.mono ?_
  rintro e w' ⟨rfl, hww⟩
  rw [hww]
  clear hww w' hc
  by_cases h1 : s.length < 1
  · have h1i : (s.length : Int) < 1 := by omega
    have hb : numB l = false := by rw [unhide HBd]; simp; omega
    have HN := hide (unhide HV hb)
    have HB := hide hb
    clear HV HT HBd hb
    go_wp2_with fail
    go_ret2
    refine ⟨?_, rfl⟩
    rw [unhide HN, unhide HB]
    rfl
  · have h1i : ¬ (s.length : Int) < 1 := by omega
    by_cases h6 : 6 < s.length
    · have h6i : (6 : Int) < (s.length : Int) := by omega
      have hb : numB l = false := by rw [unhide HBd]; simp; omega
      have HN := hide (unhide HV hb)
      have HB := hide hb
      clear HV HT HBd hb
      go_wp2_with fail
      go_ret2
      refine ⟨?_, rfl⟩
      rw [unhide HN, unhide HB]
      rfl
    · have h6i : ¬ (6 : Int) < (s.length : Int) := by omega
      go_wp2_with fail
      go_loopw [6, 7, 23] (fun n _ i wr => wr = w ∧ ∃ k : Nat, k ≤ s.length ∧ i = .int .i64 k ∧ n = .int .i64 (decN (s.take k)) ∧ Hid (∀ j (h : j < s.length), j < k → isD s[j] = true)) (fun _ _ i _ => s.length - (intOf i).toNat)
      case atStart => exact ⟨rfl, 0, Nat.zero_le _, rfl, rfl, hide (fun j _ h => by omega)⟩
      case round =>
        obtain ⟨rfl, k, hk, rfl, rfl, HD⟩ := hrel
        by_cases hlt : k < s.length
        · have hki : (k : Int) < (s.length : Int) := by omega
          obtain ⟨dd1, dd2⟩ := dec_span s k hk (by omega) (unhide HD)
          have hp : 10 ^ k ≤ 10 ^ 6 := Nat.pow_le_pow_right (by decide) (by omega)
          have hp6 : (10 : Nat) ^ 6 = 1000000 := by decide
          have hd6 : decN (s.take k) < 1000000 := by omega
          have HSN := hide (decN_snoc s k hlt)
          clear dd1 dd2 hp hp6
          generalize decN (s.take k) = d at *
          have hc255 : s[k].toNat < 256 := s[k].toNat_lt
          cases hdg : isD s[k] with
          | false =>
            have hb : numB l = false := by
              rw [unhide HBd]
              have : s.all isD = false := by
                rw [Bool.eq_false_iff]
                intro h
                have := List.all_eq_true.1 h s[k] (List.getElem_mem _)
                rw [hdg] at this
                cases this
              rw [this]
              rfl
            have HN := hide (unhide HV hb)
            have HB := hide hb
            simp only [isD, digitB, Bool.and_eq_false_iff, decide_eq_false_iff_not] at hdg
            clear HV HT HBd hb HD HSN
            by_cases c1 : s[k].toNat < 48
            · have c1i : (((⟨s.toArray⟩ : ByteArray)[k]'hlt).toNat : Int) < 48 := by
                show ((s[k].toNat : Nat) : Int) < 48
                omega
              go_wp2_with fail
              go_ret2
              refine ⟨?_, rfl⟩
              rw [unhide HN, unhide HB]
              rfl
            · have c1i : ¬ (((⟨s.toArray⟩ : ByteArray)[k]'hlt).toNat : Int) < 48 := by
                show ¬ ((s[k].toNat : Nat) : Int) < 48
                omega
              have c2i : (57 : Int) < (((⟨s.toArray⟩ : ByteArray)[k]'hlt).toNat : Int) := by
                show (57 : Int) < ((s[k].toNat : Nat) : Int)
                omega
              go_wp2_with fail
              go_ret2
              refine ⟨?_, rfl⟩
              rw [unhide HN, unhide HB]
              rfl
          | true =>
            have hdg2 := hdg
            simp only [isD, digitB, Bool.and_eq_true, decide_eq_true_eq] at hdg2
            have HD2 := hide (show ∀ j (h : j < s.length), j < k + 1 → isD s[j] = true from fun j hj hjk => by
              by_cases e : j = k
              · subst e; exact hdg
              · exact unhide HD j hj (by omega))
            have c1i : ¬ (((⟨s.toArray⟩ : ByteArray)[k]'hlt).toNat : Int) < 48 := by
              show ¬ ((s[k].toNat : Nat) : Int) < 48
              omega
            have c2i : ¬ (57 : Int) < (((⟨s.toArray⟩ : ByteArray)[k]'hlt).toNat : Int) := by
              show ¬ (57 : Int) < ((s[k].toNat : Nat) : Int)
              omega
            clear HD hdg
            go_wp2_with fail
            go_roundw
            case rel =>
              refine ⟨trivial, k + 1, by omega, by go_num, ?_, HD2⟩
              rw [unhide HSN]
              show Value.int .i64 ((d : Int) * 10 + (((s[k].toNat : Nat) : Int) - 48)) = _
              generalize s[k].toNat = c at *
              congr 1
              omega
            case measure => simp [intOf]; omega
        · have hkl : k = s.length := by omega
          subst hkl
          obtain ⟨dd1, dd2⟩ := dec_span s s.length (Nat.le_refl _) (by omega) (unhide HD)
          rw [List.take_length] at dd1 dd2 ⊢
          have hall : s.all isD = true := by
            rw [List.all_eq_true]
            intro x hx
            obtain ⟨j, hj, rfl⟩ := List.getElem_of_mem hx
            exact unhide HD j hj hj
          have hb : numB l = true := by rw [unhide HBd, hall]; simp; omega
          have HN := hide (unhide HT hb)
          have HB := hide hb
          have hsp := spanW_le s
          rw [spanW_digits s hall] at hsp
          rw [dd1]
          clear HD dd1 dd2 hall hb HV HT HBd hk hlt
          generalize spanL s = d at *
          cases neg with
          | true =>
            go_wp2_with fail
            go_ret2
            refine ⟨?_, rfl⟩
            rw [unhide HN, unhide HB]
            rfl
          | false =>
            go_wp2_with fail
            go_ret2
            refine ⟨?_, rfl⟩
            rw [unhide HN, unhide HB]
            rfl

end Go.Proofs.YtbljamcdaoofbaaGreatDoor

/- The program's Add: a line comes into its group. -/
namespace Go.Proofs.YtbljamcdaoofbaaGreatDoor
open Go.RowKit

theorem ownsRow_put {w : World} {B e size g n c j : Nat} {xs : List Value} {u : Value} (h : w.ownsRow B e size (.slice (some ⟨g, 0, none⟩) n c) n xs) : (w.setCell ⟨g, j, none⟩ u).ownsRow B e size (.slice (some ⟨g, 0, none⟩) n c) n (xs.set j u) := by
  refine ⟨by rw [List.length_set]; exact h.1, ?_⟩
  rcases h.2 with ⟨h', _⟩ | ⟨g', c', cur, h', hB, hg, hnc, hcm, hcs, ht⟩
  · simp at h'
  · simp only [Value.slice.injEq, Option.some.injEq, Addr.mk.injEq, and_true, true_and] at h'
    obtain ⟨rfl, rfl⟩ := h'
    refine .inr ⟨g, c, cur.setIfInBounds j u, rfl, hB, ?_, hnc, hcm, by rw [Array.size_setIfInBounds]; exact hcs, ?_⟩
    · simp [World.setCell, Array.getElem?_modify, hg]
    · rw [Array.toList_setIfInBounds, ← ht, List.take_set]

/-- a line comes in -/
def updG (line : List UInt8) (g : Grp) : Grp := ⟨g.key, g.n + 1, g.b + line.length, g.s + numV line⟩
def addG (kind : List UInt8) (gs : List Grp) (key line : List UInt8) : List Grp := if kind = meanT ∧ numB line = false then gs else (putG gs key).modify (gplace gs key) (updG line)

theorem upd_cells (gs : List Grp) (line : List UInt8) (p : Nat) (h : p < gs.length) :
    ((((gs.flatMap cellsG).set (p * 4 + 1) (.int .i64 ((gs[p].n + 1 : Nat) : Int))).set (p * 4 + 2) (.int .i64 ((gs[p].b + line.length : Nat) : Int))).set (p * 4 + 3) (.int .i64 (gs[p].s + numV line))) = (gs.modify p (updG line)).flatMap cellsG := by
  induction gs generalizing p with
  | nil => simp at h
  | cons x S ih =>
    cases p with
    | zero => simp [cellsG, updG]
    | succ p =>
      have := ih p (by simpa using h)
      rw [List.flatMap_cons, List.modify_succ_cons, List.flatMap_cons, ← this]
      rw [show (p + 1) * 4 + 1 = p * 4 + 1 + 4 by omega, show (p + 1) * 4 + 2 = p * 4 + 2 + 4 by omega, show (p + 1) * 4 + 3 = p * 4 + 3 + 4 by omega]
      simp [cellsG]

def AddP (w : World) (B gb : Nat) (kind : List UInt8) (span : Nat) (gs : List Grp) (key line : List UInt8) (e : Ending) (w' : World) : Prop :=
  e = .returned (.tuple #[]) ∧ ∃ vg', GroupsAt w' B gb kind span vg' (addG kind gs key line) ∧ Moved (fun b => b = gb ∨ B ≤ b) w w'

theorem putG_place (gs : List Grp) (key : List UInt8) : gplace gs key < (putG gs key).length := by
  unfold putG
  split
  · rename_i h; exact gplace_lt h
  · have := gplace_le gs key
    simp
    omega

set_option maxRecDepth 10000 in
set_option maxHeartbeats 1000000 in
theorem gadd_any {w : World} {B gb : Nat} {kind : List UInt8} {span : Nat} {vg : Value} {gs : List Grp} (key line : List UInt8) (h : GroupsAt w B gb kind span vg gs) (hB : B ≤ w.heap.size) (hn : gs.length ≤ 299) (hr : GRise gs) (hl : line.length ≤ 40) (hfit : ∀ g ∈ putG gs key, g.n ≤ 300 ∧ g.b ≤ 12000 ∧ -300000300 ≤ g.s ∧ g.s ≤ 300000300) :
    Calls Tryz.prog 54 #[.pointer (some ⟨gb, 0, none⟩), .string ⟨key.toArray⟩, .string ⟨line.toArray⟩] w (AddP w B gb kind span gs key line) := by
  obtain ⟨c0, c1, c2, fz⟩ := cell_of_block3 h.block
  have hnum := pnumber_any line w (by omega)
  unfold NumP at hnum
  have hgr := group_any key h hB (by omega) hr
  have HH := hide h
  have HFT := hide hfit
  have hnv := numV_abs line
  clear h c1 c2 hr hfit
  go_enter Tryz.func54, Tryz.ntmps54
  go_wp2_with fail
  refine hnum.mono ?_
  rintro e w' ⟨rfl, hww⟩
  rw [hww]
  clear hww w' hnum
  by_cases hm : kind = meanT ∧ numB line = false
  · have HA := hide (show addG kind gs key line = gs by unfold addG; rw [if_pos hm])
    obtain ⟨hm1, hm2⟩ := hm
    rw [hm2]
    have hk : (kind == [109, 101, 97, 110]) = true := by simpa [meanT] using hm1
    go_wp2_with fail
    go_end0
    refine ⟨rfl, vg, ?_, Moved.refl _ _⟩
    rw [unhide HA]
    exact unhide HH
  · have HA := hide (show addG kind gs key line = (putG gs key).modify (gplace gs key) (updG line) by unfold addG; rw [if_neg hm])
    have hgo : (kind == [109, 101, 97, 110]) = false ∨ ((kind == [109, 101, 97, 110]) = true ∧ numB line = true) := by
      by_cases e : kind = meanT
      · right
        refine ⟨by simpa [meanT] using e, ?_⟩
        cases hb : numB line with
        | true => rfl
        | false => exact absurd ⟨e, hb⟩ hm
      · left
        simpa [meanT] using e
    clear hm
    have hpl := putG_place gs key
    have hnb : ∃ nb, nb = numB line := ⟨_, rfl⟩
    obtain ⟨nb, hnb⟩ := hnb
    rw [← hnb] at hgo ⊢
    clear hnb
    rcases hgo with hk | ⟨hk, rfl⟩
    all_goals
      go_wp2_with fail
      refine hgr.mono ?_
      rintro e w1 ⟨g, c, rfl, hG, hb1⟩
      clear hgr
      obtain ⟨gg, cc, ef, -, hgw, -, -, hcell, hfzz⟩ := owns_open hG.row (by omega)
      simp only [Value.slice.injEq, Option.some.injEq, Addr.mk.injEq, and_true, true_and] at ef
      obtain ⟨rfl, rfl⟩ := ef
      obtain ⟨e0, e1, e2, e3⟩ := cellsG_at (putG gs key) (gplace gs key) hpl
      have m1 := (hcell (gplace gs key * 4 + 1) (by omega)).trans e1
      have m2 := (hcell (gplace gs key * 4 + 2) (by omega)).trans e2
      have m3 := (hcell (gplace gs key * 4 + 3) (by omega)).trans e3
      obtain ⟨f1, f2, f3, f4⟩ := unhide HFT _ (List.getElem_mem hpl)
      have HUC := hide (upd_cells (putG gs key) line (gplace gs key) hpl)
      have hgbB := ((hG.row).lt g rfl).1
      have hneg : g ≠ gb := fun e => by
        obtain ⟨_, cur, hc⟩ := ownsRow_type hG.row (g := g) rfl
        exact ne_of_type hc hG.block (by decide) e
      have HG := hide hG
      have HB1 := hide hb1
      clear e0 e1 e2 e3 hcell hG hb1 HFT HH c0 fz
      generalize hPP : putG gs key = P at *
      generalize gplace gs key = p at *
      generalize P[p] = x at *
      obtain ⟨xk, xn, xb, xs⟩ := x
      simp only at m1 m2 m3 f1 f2 f3 f4 HUC
      go_wp2_with fail
      go_end0
      refine ⟨rfl, .slice (some ⟨g, 0, none⟩) P.length c, ?_, ?_⟩
      · rw [unhide HA]
        refine ⟨?_, ?_⟩
        · rw [Go.RowKit.Below.heap_setCell _ _ _ _ hneg.symm, Go.RowKit.Below.heap_setCell _ _ _ _ hneg.symm, Go.RowKit.Below.heap_setCell _ _ _ _ hneg.symm]
          exact (unhide HG).block
        · rw [List.length_modify, ← unhide HUC]
          exact ownsRow_put (ownsRow_put (ownsRow_put (unhide HG).row))
      · exact (((unhide HB1).setCell (.inl (.inr hgbB)) _).setCell (.inl (.inr hgbB)) _).setCell (.inl (.inr hgbB)) _

end Go.Proofs.YtbljamcdaoofbaaGreatDoor

/- What the groups come to: lists alone. -/
namespace Go.Proofs.YtbljamcdaoofbaaGreatDoor
open Go.RowKit

/-- below the place the keys are less, from it on they are not -/
theorem gplace_parts {gs : List Grp} (h : GRise gs) (l : List UInt8) : (∀ j (hj : j < gs.length), j < gplace gs l → Op.bytesLess gs[j].key l = true) ∧ (∀ j (hj : j < gs.length), gplace gs l ≤ j → Op.bytesLess gs[j].key l = false) := by
  induction gs with
  | nil => exact ⟨fun j hj => by simp at hj, fun j hj => by simp at hj⟩
  | cons x S ih =>
    have hS : GRise S := (List.pairwise_cons.1 h).2
    have hx := (List.pairwise_cons.1 h).1
    obtain ⟨i1, i2⟩ := ih hS
    cases hl : Op.bytesLess x.key l with
    | true =>
      have e : gplace (x :: S) l = gplace S l + 1 := by
        unfold gplace
        simp [hl]
      rw [e]
      refine ⟨fun j hj hjp => ?_, fun j hj hjp => ?_⟩
      · cases j with
        | zero => exact hl
        | succ j => exact i1 j (by simpa using hj) (by omega)
      · cases j with
        | zero => omega
        | succ j => exact i2 j (by simpa using hj) (by omega)
    | false =>
      have hall : ∀ y ∈ S, Op.bytesLess y.key l = false := fun y hy => by
        rw [Bool.eq_false_iff]
        intro hy2
        have := less_trans (hx y hy) hy2
        rw [hl] at this
        cases this
      have e : gplace (x :: S) l = 0 := by
        unfold gplace
        rw [List.length_eq_zero_iff, List.filter_eq_nil_iff]
        intro y hy
        rcases List.mem_cons.1 hy with rfl | hy
        · simp [hl]
        · simp [hall y hy]
      rw [e]
      refine ⟨fun j hj hjp => by omega, fun j hj _ => ?_⟩
      cases j with
      | zero => exact hl
      | succ j => exact hall _ (List.getElem_mem _)

theorem putG_at {gs : List Grp} (h : GRise gs) (key : List UInt8) : ((putG gs key)[gplace gs key]'(putG_place gs key)).key = key := by
  obtain ⟨p1, p2⟩ := gplace_parts h key
  by_cases hex : ∃ g ∈ gs, g.key = key
  · have hlt := gplace_lt hex
    have e : putG gs key = gs := by unfold putG; rw [if_pos hex]
    simp only [e]
    obtain ⟨g, hg, rfl⟩ := hex
    obtain ⟨j, hj, rfl⟩ := List.getElem_of_mem hg
    rcases Nat.lt_trichotomy j (gplace gs gs[j].key) with hl | hl | hl
    · have := p1 j hj hl
      rw [less_irrefl] at this
      cases this
    · simp only [← hl]
    · have h1 := List.pairwise_iff_getElem.1 h _ j hlt hj hl
      rw [p2 _ hlt (Nat.le_refl _)] at h1
      cases h1
  · have e : putG gs key = gs.take (gplace gs key) ++ [newG key] ++ gs.drop (gplace gs key) := by unfold putG; rw [if_neg hex]
    have hle := gplace_le gs key
    simp only [e]
    rw [List.getElem_append_left (by simp; omega), List.getElem_append_right (by simp; omega)]
    simp [newG]

theorem putG_rise {gs : List Grp} (h : GRise gs) (key : List UInt8) : GRise (putG gs key) := by
  obtain ⟨p1, p2⟩ := gplace_parts h key
  by_cases hex : ∃ g ∈ gs, g.key = key
  · have e : putG gs key = gs := by unfold putG; rw [if_pos hex]
    rw [e]; exact h
  · have e : putG gs key = gs.take (gplace gs key) ++ [newG key] ++ gs.drop (gplace gs key) := by unfold putG; rw [if_neg hex]
    rw [e]
    have ht : ∀ a ∈ gs.take (gplace gs key), Op.bytesLess a.key key = true := fun a ha => by
      obtain ⟨j, hj, rfl⟩ := List.getElem_of_mem ha
      simp only [List.length_take] at hj
      rw [List.getElem_take]
      exact p1 j (by omega) (by omega)
    have hd : ∀ a ∈ gs.drop (gplace gs key), Op.bytesLess key a.key = true := fun a ha => by
      obtain ⟨j, hj, rfl⟩ := List.getElem_of_mem ha
      simp only [List.length_drop] at hj
      rw [List.getElem_drop]
      rcases less_total _ _ (p2 (gplace gs key + j) (by omega) (by omega)) with e' | e'
      · exact absurd ⟨_, List.getElem_mem _, e'⟩ hex
      · exact e'
    unfold GRise
    rw [List.append_assoc, List.pairwise_append]
    refine ⟨List.Pairwise.sublist (List.take_sublist _ _) h, ?_, ?_⟩
    · rw [List.singleton_append, List.pairwise_cons]
      exact ⟨fun a ha => hd a ha, List.Pairwise.sublist (List.drop_sublist _ _) h⟩
    · intro a ha b hb
      rcases List.mem_cons.1 (by simpa using hb) with rfl | hb
      · exact ht a ha
      · exact less_trans (ht a ha) (hd b hb)

end Go.Proofs.YtbljamcdaoofbaaGreatDoor

/- What the groups hold when some lines are in. -/
namespace Go.Proofs.YtbljamcdaoofbaaGreatDoor
open Go.RowKit

abbrev KL := List UInt8 × List UInt8
def selP (P : List KL) (k : List UInt8) : List KL := P.filter (fun x => x.1 == k)
def TotG (P : List KL) (g : Grp) : Prop := g.n = (selP P g.key).length ∧ g.b = ((selP P g.key).map (fun x => x.2.length)).sum ∧ g.s = ((selP P g.key).map (fun x => numV x.2)).sum

structure GInv (gs : List Grp) (P : List KL) : Prop where
  rise : GRise gs
  mem : ∀ k, (∃ g ∈ gs, g.key = k) ↔ (∃ x ∈ P, x.1 = k)
  tot : ∀ g ∈ gs, TotG P g

theorem GInv.empty : GInv [] [] := ⟨List.Pairwise.nil, fun k => by simp, fun g hg => by cases hg⟩

theorem GInv.put {gs : List Grp} {P : List KL} (h : GInv gs P) (key : List UInt8) : ∀ g ∈ putG gs key, TotG P g := by
  intro g hg
  by_cases hex : ∃ g ∈ gs, g.key = key
  · have e : putG gs key = gs := by unfold putG; rw [if_pos hex]
    rw [e] at hg
    exact h.tot g hg
  · have e : putG gs key = gs.take (gplace gs key) ++ [newG key] ++ gs.drop (gplace gs key) := by unfold putG; rw [if_neg hex]
    rw [e] at hg
    simp only [List.mem_append, List.mem_singleton] at hg
    rcases hg with (hg | rfl) | hg
    · exact h.tot g (List.mem_of_mem_take hg)
    · have hs : selP P key = [] := by
        unfold selP
        rw [List.filter_eq_nil_iff]
        intro x hx hk
        exact hex ((h.mem key).2 ⟨x, hx, by simpa using hk⟩)
      show 0 = (selP P key).length ∧ 0 = ((selP P key).map (fun x => x.2.length)).sum ∧ (0 : Int) = ((selP P key).map (fun x => numV x.2)).sum
      rw [hs]
      exact ⟨rfl, rfl, rfl⟩
    · exact h.tot g (List.mem_of_mem_drop hg)

theorem putG_keys (gs : List Grp) (key k : List UInt8) : (∃ g ∈ putG gs key, g.key = k) ↔ ((∃ g ∈ gs, g.key = k) ∨ k = key) := by
  by_cases hex : ∃ g ∈ gs, g.key = key
  · have e : putG gs key = gs := by unfold putG; rw [if_pos hex]
    rw [e]
    constructor
    · exact .inl
    · rintro (h | rfl)
      · exact h
      · exact hex
  · have e : putG gs key = gs.take (gplace gs key) ++ [newG key] ++ gs.drop (gplace gs key) := by unfold putG; rw [if_neg hex]
    rw [e]
    constructor
    · rintro ⟨g, hg, rfl⟩
      simp only [List.mem_append, List.mem_singleton] at hg
      rcases hg with (hg | rfl) | hg
      · exact .inl ⟨g, List.mem_of_mem_take hg, rfl⟩
      · exact .inr rfl
      · exact .inl ⟨g, List.mem_of_mem_drop hg, rfl⟩
    · rintro (⟨g, hg, rfl⟩ | rfl)
      · refine ⟨g, ?_, rfl⟩
        rw [← List.take_append_drop (gplace gs key) gs] at hg
        rcases List.mem_append.1 hg with h1 | h1
        · simp [h1]
        · simp [h1]
      · exact ⟨newG _, by simp, rfl⟩

theorem modify_keys (gs : List Grp) (p : Nat) (line : List UInt8) : (gs.modify p (updG line)).map Grp.key = gs.map Grp.key := by
  induction gs generalizing p with
  | nil => simp
  | cons x S ih =>
    cases p with
    | zero => rfl
    | succ p => simp [List.modify_succ_cons, ih p]

theorem rise_keys {gs : List Grp} : GRise gs ↔ (gs.map Grp.key).Pairwise (fun a b => Op.bytesLess a b = true) := by
  unfold GRise
  rw [List.pairwise_map]

theorem selP_snoc (P : List KL) (key line k : List UInt8) : selP (P ++ [(key, line)]) k = selP P k ++ (if key = k then [(key, line)] else []) := by
  unfold selP
  rw [List.filter_append]
  congr 1
  by_cases e : key = k
  · rw [if_pos e]; simp [e]
  · rw [if_neg e]; simp [e]

theorem keys_exists (gs : List Grp) (k : List UInt8) : (∃ g ∈ gs, g.key = k) ↔ k ∈ gs.map Grp.key := by
  rw [List.mem_map]

/-- a line comes in -/
theorem GInv.add {gs : List Grp} {P : List KL} (h : GInv gs P) (key line : List UInt8) : GInv ((putG gs key).modify (gplace gs key) (updG line)) (P ++ [(key, line)]) := by
  have hr := putG_rise h.rise key
  have hp := putG_place gs key
  have hat := putG_at h.rise key
  refine ⟨?_, ?_, ?_⟩
  · rw [rise_keys, modify_keys, ← rise_keys]
    exact hr
  · intro k
    rw [keys_exists, modify_keys, ← keys_exists, putG_keys, h.mem k]
    constructor
    · rintro (⟨x, hx, rfl⟩ | rfl)
      · exact ⟨x, List.mem_append_left _ hx, rfl⟩
      · exact ⟨(k, line), by simp, rfl⟩
    · rintro ⟨x, hx, rfl⟩
      rcases List.mem_append.1 hx with hx | hx
      · exact .inl ⟨x, hx, rfl⟩
      · exact .inr (by rw [List.mem_singleton.1 hx])
  · intro g hg
    obtain ⟨j, hj, rfl⟩ := List.getElem_of_mem hg
    rw [List.length_modify] at hj
    rw [List.getElem_modify]
    by_cases e : gplace gs key = j
    · subst e
      rw [if_pos rfl]
      have ht := h.put key _ (List.getElem_mem hp)
      unfold TotG at ht ⊢
      simp only [updG]
      rw [hat] at ht ⊢
      rw [selP_snoc, if_pos rfl]
      obtain ⟨t1, t2, t3⟩ := ht
      refine ⟨?_, ?_, ?_⟩
      · rw [t1]; simp
      · rw [t2]; simp
      · rw [t3]; simp
    · rw [if_neg e]
      have ht := h.put key _ (List.getElem_mem hj)
      have hne : ¬ key = (putG gs key)[j].key := by
        intro he
        have he2 := hat.trans he
        have hpw := List.pairwise_iff_getElem.1 hr
        rcases Nat.lt_or_gt_of_ne e with hl | hl
        · have := hpw _ j hp hj hl
          rw [he2, less_irrefl] at this
          cases this
        · have := hpw j _ hj hp hl
          rw [← he2, less_irrefl] at this
          cases this
      unfold TotG at ht ⊢
      rw [selP_snoc, if_neg hne, List.append_nil]
      exact ht

end Go.Proofs.YtbljamcdaoofbaaGreatDoor

/- A group's value is its sample. -/
namespace Go.Proofs.YtbljamcdaoofbaaGreatDoor
open Go.RowKit

theorem smp_plain {kind : List UInt8} (hk : kind = countT ∨ kind = rateT ∨ kind = bytesT) (span n b many : Nat) (s s' : Int) : smpS kind span n b many s = some (valS kind span n b s') := by
  have d1 : ¬ countT = rateT := by decide
  have d2 : ¬ countT = bytesT := by decide
  have d3 : ¬ countT = meanT := by decide
  have d4 : ¬ rateT = countT := by decide
  have d5 : ¬ bytesT = countT := by decide
  have d6 : ¬ bytesT = rateT := by decide
  unfold smpS valS
  rcases hk with rfl | rfl | rfl
  · rw [if_pos rfl, if_neg d1, if_neg d2, if_neg d3]
  · rw [if_neg d4, if_pos rfl, if_pos rfl]
  · rw [if_neg d5, if_neg d6, if_pos rfl, if_neg d6, if_pos rfl]

theorem smp_mean (span n b many b' : Nat) (s : Int) (hm : 0 < many) : smpS meanT span n b many s = some (valS meanT span many b' s) := by
  have d1 : ¬ meanT = countT := by decide
  have d2 : ¬ meanT = rateT := by decide
  have d3 : ¬ meanT = bytesT := by decide
  unfold smpS valS
  rw [if_neg d1, if_neg d2, if_neg d3, if_neg (by omega), if_neg d2, if_neg d3, if_pos rfl]
  split <;> rfl

theorem smp_mean_none (span n b : Nat) (s : Int) : smpS meanT span n b 0 s = none := by
  have d1 : ¬ meanT = countT := by decide
  have d2 : ¬ meanT = rateT := by decide
  have d3 : ¬ meanT = bytesT := by decide
  unfold smpS
  rw [if_neg d1, if_neg d2, if_neg d3, if_pos rfl]

end Go.Proofs.YtbljamcdaoofbaaGreatDoor

/- The groups' keys, and their samples. -/
namespace Go.Proofs.YtbljamcdaoofbaaGreatDoor
open Go.RowKit

theorem keys_ris (by_ : List UInt8) (T : List Rw) : ∀ l, Ris l → Ris (T.foldl (fun ks r => putL ks (keyL by_ r)) l) ∧ ∀ x, x ∈ T.foldl (fun ks r => putL ks (keyL by_ r)) l ↔ x ∈ l ∨ ∃ r ∈ T, keyL by_ r = x := by
  induction T with
  | nil => intro l hl; exact ⟨hl, fun x => by simp⟩
  | cons r T ih =>
    intro l hl
    obtain ⟨h1, h2⟩ := putL_ris (keyL by_ r) hl
    obtain ⟨h3, h4⟩ := ih _ h1
    refine ⟨h3, fun x => ?_⟩
    rw [List.foldl_cons, h4, h2]
    constructor
    · rintro ((rfl | h) | ⟨y, hy, e⟩)
      · exact .inr ⟨r, List.mem_cons_self, rfl⟩
      · exact .inl h
      · exact .inr ⟨y, List.mem_cons_of_mem _ hy, e⟩
    · rintro (h | ⟨y, hy, e⟩)
      · exact .inl (.inr h)
      · rcases List.mem_cons.1 hy with rfl | hy
        · exact .inl (.inl e.symm)
        · exact .inr ⟨y, hy, e⟩

theorem keysL_ris (by_ : List UInt8) (T : List Rw) : Ris (keysL by_ T) ∧ ∀ x, x ∈ keysL by_ T ↔ ∃ r ∈ T, keyL by_ r = x := by
  obtain ⟨h1, h2⟩ := keys_ris by_ T [] List.Pairwise.nil
  exact ⟨h1, fun x => (h2 x).trans (by simp)⟩

theorem filterMap_all {α β : Type} {f : α → Option β} {g : α → β} {l : List α} (h : ∀ a ∈ l, f a = some (g a)) : l.filterMap f = l.map g := by
  induction l with
  | nil => rfl
  | cons a l ih =>
    rw [List.filterMap_cons_some (h a List.mem_cons_self), List.map_cons, ih fun x hx => h x (List.mem_cons_of_mem _ hx)]

/-- a measure that is no mean: the groups' samples are the document's -/
theorem smps_plain {q : Qry} {T : List Rw} {gs : List Grp} {P : List KL} (h : GInv gs P) (hk : q.meas = countT ∨ q.meas = rateT ∨ q.meas = bytesT) (hp : ∀ k, ((selP P k).map (fun x => x.2)).Perm ((grpL q.by_ T k).map (fun r => r.2.2))) :
    smpsL q T (keysL q.by_ T) = gs.map (smpG q.meas q.span) := by
  obtain ⟨k1, k2⟩ := keysL_ris q.by_ T
  have hlen : ∀ k, (selP P k).length = (grpL q.by_ T k).length := fun k => by simpa using (hp k).length_eq
  have hby : ∀ k, ((selP P k).map (fun x => x.2.length)).sum = bytesL (grpL q.by_ T k) := fun k => by
    have := ((hp k).map List.length).sum_nat
    simpa [bytesL, List.map_map, Function.comp_def] using this
  have hkeys : keysL q.by_ T = gs.map Grp.key := by
    refine ris_ext k1 (rise_keys.1 h.rise) fun k => ?_
    rw [k2, ← keys_exists, h.mem k]
    have e1 : (∃ x ∈ P, x.1 = k) ↔ 0 < (selP P k).length := by
      rw [List.length_pos_iff_exists_mem]
      unfold selP
      constructor
      · rintro ⟨x, hx, e⟩; exact ⟨x, List.mem_filter.2 ⟨hx, by simp [e]⟩⟩
      · rintro ⟨x, hx⟩; exact ⟨x, (List.mem_filter.1 hx).1, by simpa using (List.mem_filter.1 hx).2⟩
    have e2 : (∃ r ∈ T, keyL q.by_ r = k) ↔ 0 < (grpL q.by_ T k).length := by
      rw [List.length_pos_iff_exists_mem]
      unfold grpL
      constructor
      · rintro ⟨x, hx, e⟩; exact ⟨x, List.mem_filter.2 ⟨hx, by simp [e]⟩⟩
      · rintro ⟨x, hx⟩; exact ⟨x, (List.mem_filter.1 hx).1, by simpa using (List.mem_filter.1 hx).2⟩
    rw [e1, e2, hlen]
  unfold smpsL
  rw [hkeys, List.filterMap_map]
  refine filterMap_all fun g hg => ?_
  obtain ⟨t1, t2, -⟩ := h.tot g hg
  simp only [Function.comp_def, grpS]
  rw [smp_plain hk _ _ _ _ _ g.s, ← hlen, ← t1, ← hby, ← t2]
  rfl

theorem sum_numbers (G : List Rw) : sumL G = ((G.filter (fun r => numB r.2.2)).map (fun r => numV r.2.2)).sum := by
  induction G with
  | nil => rfl
  | cons r G ih =>
    unfold sumL at ih ⊢
    rw [List.map_cons, List.sum_cons, ih]
    cases hb : numB r.2.2 with
    | true => simp [hb]
    | false => simp [hb, numV_zero hb]

theorem perm_sum {a b : List Int} (h : a.Perm b) : a.sum = b.sum := by
  induction h with
  | nil => rfl
  | cons x _ ih => rw [List.sum_cons, List.sum_cons, ih]
  | swap x y l => simp only [List.sum_cons]; omega
  | trans _ _ h1 h2 => exact h1.trans h2

theorem filterMap_some {α β : Type} {f : α → Option β} {p : α → Bool} {l : List α} (h : ∀ a ∈ l, p a = false → f a = none) : l.filterMap f = (l.filter p).filterMap f := by
  induction l with
  | nil => rfl
  | cons a l ih =>
    have ih' := ih fun x hx => h x (List.mem_cons_of_mem _ hx)
    cases hp : p a with
    | true => rw [List.filter_cons_of_pos hp, List.filterMap_cons, List.filterMap_cons, ih']
    | false => rw [List.filter_cons_of_neg (by simp [hp]), List.filterMap_cons_none (h a List.mem_cons_self hp), ih']

/-- a mean: the groups' samples are the document's -/
theorem smps_mean {q : Qry} {T : List Rw} {gs : List Grp} {P : List KL} (h : GInv gs P) (hk : q.meas = meanT) (hp : ∀ k, ((selP P k).map (fun x => x.2)).Perm (((grpL q.by_ T k).filter (fun r => numB r.2.2)).map (fun r => r.2.2))) :
    smpsL q T (keysL q.by_ T) = gs.map (smpG q.meas q.span) := by
  obtain ⟨k1, k2⟩ := keysL_ris q.by_ T
  have hlen : ∀ k, (selP P k).length = manyL (grpL q.by_ T k) := fun k => by simpa [manyL] using (hp k).length_eq
  have hsum : ∀ k, ((selP P k).map (fun x => numV x.2)).sum = sumL (grpL q.by_ T k) := fun k => by
    have := perm_sum ((hp k).map numV)
    rw [sum_numbers]
    simpa [List.map_map, Function.comp_def] using this
  have e1 : ∀ k, (∃ x ∈ P, x.1 = k) ↔ 0 < (selP P k).length := fun k => by
    rw [List.length_pos_iff_exists_mem]
    unfold selP
    constructor
    · rintro ⟨x, hx, e⟩; exact ⟨x, List.mem_filter.2 ⟨hx, by simp [e]⟩⟩
    · rintro ⟨x, hx⟩; exact ⟨x, (List.mem_filter.1 hx).1, by simpa using (List.mem_filter.1 hx).2⟩
  have hkeys : (keysL q.by_ T).filter (fun k => decide (0 < manyL (grpL q.by_ T k))) = gs.map Grp.key := by
    refine ris_ext (List.Pairwise.sublist List.filter_sublist k1) (rise_keys.1 h.rise) fun k => ?_
    rw [List.mem_filter, ← keys_exists, h.mem k, e1, hlen, k2, decide_eq_true_eq]
    constructor
    · exact fun h => h.2
    · intro hm
      refine ⟨?_, hm⟩
      have hg : 0 < (grpL q.by_ T k).length := Nat.lt_of_lt_of_le hm (manyL_le _)
      obtain ⟨r, hr⟩ := List.length_pos_iff_exists_mem.1 hg
      exact ⟨r, (List.mem_filter.1 hr).1, by simpa using (List.mem_filter.1 hr).2⟩
  unfold smpsL
  rw [filterMap_some (p := fun k => decide (0 < manyL (grpL q.by_ T k))) ?_, hkeys, List.filterMap_map]
  · refine filterMap_all fun g hg => ?_
    obtain ⟨t1, -, t3⟩ := h.tot g hg
    have hpos : 0 < manyL (grpL q.by_ T g.key) := by
      rw [← hlen, ← e1, ← h.mem]
      exact ⟨g, hg, rfl⟩
    simp only [Function.comp_def, grpS]
    rw [hk, smp_mean _ _ _ _ g.b _ hpos, ← hlen, ← t1, ← hsum, ← t3]
    simp [smpG]
  · intro k _ hm
    have h0 : manyL (grpL q.by_ T k) = 0 := by
      have := of_decide_eq_false hm
      omega
    unfold grpS
    rw [hk, h0, smp_mean_none]
    rfl

end Go.Proofs.YtbljamcdaoofbaaGreatDoor

/- The program's New of groups, and the errors of a Measure behind those of the query's text. -/
namespace Go.Proofs.YtbljamcdaoofbaaGreatDoor
open Go.RowKit

theorem gnew_any (kind : List UInt8) (span : Nat) (w : World) :
    Calls Tryz.prog 52 #[.string ⟨kind.toArray⟩, .int .i64 span] w fun e w' => e = .returned (.pointer (some ⟨w.heap.size, 0, none⟩)) ∧ GroupsAt w' w.heap.size w.heap.size kind span (.slice none 0 0) [] ∧ Below w.heap.size w w' := by
  go_enter Tryz.func52, Tryz.ntmps52
  go_wp2_with fail
  go_ret
  exact ⟨rfl, ⟨heap_alloc_new w _, World.ownsRow_nil _ _ _ _⟩, (Below.refl _ w).alloc (Nat.le_refl _) _⟩

def checkME (q : Qry) (at_ : Int) : Int := if (q.meas == []) = true then 9 else if timeB at_ = false then 10 else 0

theorem checkMeasure_any {w : World} {base rb : Nat} {q : Qry} {vm vf : Value} (at_ : Int) (hq : QueryAt w base rb q vm vf) :
    Calls Tryz.prog 51 #[.pointer (some ⟨rb, 1, none⟩), .int .i64 at_] w fun e w' => e = .returned (.int .i64 (checkME q at_)) ∧ w' = w := by
  obtain ⟨v0, hblk⟩ := hq.block
  obtain ⟨-, c1, -, -, -, -, -⟩ := cell_of_block6 hblk
  clear hq hblk
  have ht := isTime_any at_ w
  go_enter Tryz.func51, Tryz.ntmps51
  cases hm : (q.meas == []) with
  | true =>
    have HR := hide (show checkME q at_ = 9 by unfold checkME; rw [if_pos hm])
    clear ht
    go_wp2_with fail
    go_ret
    refine ⟨?_, rfl⟩
    rw [unhide HR]
    rfl
  | false =>
    have HR := hide (show checkME q at_ = if timeB at_ = false then 10 else 0 by unfold checkME; rw [if_neg (by simp [hm])])
    cases hb : timeB at_ with
    | false =>
      rw [hb] at ht HR
      go_wp2_with fail
      refine ht.mono ?_
      rintro e w' ⟨rfl, hww⟩
      rw [hww]
      clear hww w' ht
      go_wp2_with fail
      go_ret
      refine ⟨?_, rfl⟩
      rw [unhide HR]
      rfl
    | true =>
      rw [hb] at ht HR
      go_wp2_with fail
      refine ht.mono ?_
      rintro e w' ⟨rfl, hww⟩
      rw [hww]
      clear hww w' ht
      go_wp2_with fail
      go_ret
      refine ⟨?_, rfl⟩
      rw [unhide HR]
      rfl

end Go.Proofs.YtbljamcdaoofbaaGreatDoor
