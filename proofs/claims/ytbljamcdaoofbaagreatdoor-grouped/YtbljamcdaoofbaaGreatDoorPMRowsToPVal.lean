/- Texts PMRows, PSplit, PVal, joined. -/
import Derived.Test.YtbljamcdaoofbaaGreatDoorPUpToPMerge
import Derived.Test.YtbljamcdaoofbaaGreatDoorLabelEqToRAsks
import Derived.RangeFuncNested
import Derived.RangeFuncBound
import Derived.RangeFuncCalls
import Derived.RangeFuncLeaves
import Derived.Shelf.Abstract
import Derived.Shelf.RegionOpen
import Derived.WalkKit
import Derived.OwnWalkIn
import Derived.TacticsInMore
import Derived.LoopNIn
import Derived.LoopIn
/- merge.Rows: the first rows of all sources. -/
namespace Go.Proofs.YtbljamcdaoofbaaGreatDoor
open Go.RowKit

theorem QAt.moved {w w' : World} {F : Nat → Prop} {base qp : Nat} {bw : Bool} {vS : Value} {ss : List Src} (h : QAt w base qp bw vS ss) (hm : Moved F w w') (h1 : ¬ F qp) (h2 : ∀ g, vS.ownBlock = some g → ¬ F g) (h3 : ∀ b, b < base → ¬ F b) : QAt w' base qp bw vS ss := by
  have hb : Below base w w' := ⟨hm.os, hm.tape, hm.output, hm.size, fun k hk => hm.block k (Nat.lt_of_lt_of_le hk h.base_le) (h3 k hk)⟩
  refine ⟨?_, ?_, fun s hs => (h.lines s hs).below hb, h.full, h.bqp, h.few⟩
  · rw [hm.block qp (Array.getElem?_eq_some_iff.1 h.block).1 h1]; exact h.block
  · exact ownsRow_same h.row fun g hg => hm.block g (ownsRow_type h.row hg).1 (h2 g hg)

def lenV : Value → Nat
  | .slice _ n _ => n
  | _ => 0

def fullL (srcs : List Src) : List Src := srcs.filter (fun s => !s.lines.isEmpty)

theorem fullL_take {srcs : List Src} {k : Nat} (hk : k < srcs.length) {ss ss' : List Src} (h : ss.Perm (fullL (srcs.take k))) (h' : ss'.Perm (addL srcs[k] ss)) : ss'.Perm (fullL (srcs.take (k + 1))) := by
  rw [List.take_succ_eq_append_getElem hk]
  unfold fullL at *
  rw [List.filter_append]
  refine h'.trans ?_
  unfold addL
  cases he : srcs[k].lines.isEmpty with
  | true => simpa [he] using h
  | false =>
    simp only [he, List.filter_cons, List.filter_nil, Bool.not_false, if_true, Bool.false_eq_true, if_false]
    exact (h.cons _).trans (List.perm_append_singleton _ _).symm

/-- the queue is empty at first -/
theorem QOk.start (w : World) (bw : Bool) : QOk (w.alloc (.cells #[.slice none 0 0, .bool bw] 123)) w.heap.size w.heap.size bw (.slice none 0 0) [] :=
  ⟨⟨heap_alloc_new w _, World.ownsRow_nil _ _ _ _, fun s hs => (by cases hs), fun s hs => (by cases hs), Nat.le_refl _, by simp⟩, HeapOk.nil⟩

/-- so many rows are out -/
structure OutI (w : World) (bw : Bool) (T : List Rw) (lim : Nat) (v : Value) (m : Nat) (wr : World) (vS : Value) (ss : List Src) : Prop where
  row : wr.ownsRow w.heap.size 38 3 v m ((T.take m).flatMap cellsR)
  q : QOk wr w.heap.size w.heap.size bw vS ss
  inv : MInv bw (T.drop m) ss
  le : m ≤ T.length
  bel : Below w.heap.size w wr

theorem OutI.below {w wr w' : World} {bw : Bool} {T : List Rw} {lim m : Nat} {v vS : Value} {ss : List Src} (h : OutI w bw T lim v m wr vS ss) (hb : Below wr.heap.size wr w') : OutI w bw T lim v m w' vS ss :=
  ⟨ownsRow_same h.row fun b hb' => hb.block b (ownsRow_type h.row hb').1, h.q.below hb, h.inv, h.le, h.bel.trans (hb.mono h.bel.size)⟩

theorem OutI.apart {w wr : World} {bw : Bool} {T : List Rw} {lim m : Nat} {v vS : Value} {ss : List Src} (h : OutI w bw T lim v m wr vS ss) : ∀ g, v.ownBlock = some g → g ≠ w.heap.size ∧ vS.ownBlock ≠ some g := by
  intro g hg
  obtain ⟨-, cur, hc⟩ := ownsRow_type h.row hg
  refine ⟨ne_of_type hc h.q.1.block (by decide), fun e => ?_⟩
  obtain ⟨-, cur2, hc2⟩ := ownsRow_type h.q.1.row e
  exact ne_of_type hc hc2 (by decide) rfl

/-- behind a take: the row that came out; the rows so far are as they were -/
theorem OutI.took {w wr w' : World} {bw : Bool} {T : List Rw} {lim m : Nat} {v vS : Value} {ss : List Src} {e : Ending} (h : OutI w bw T lim v m wr vS ss) (ht : TakeP wr w.heap.size w.heap.size bw vS (T.drop m) e w') :
    ∃ (hm : m < T.length) (v' : Value) (ss' : List Src), e = .returned (.agg #[SV T[m].1, .int .i64 T[m].2.1, SV T[m].2.2]) ∧ w'.ownsRow w.heap.size 38 3 v m ((T.take m).flatMap cellsR) ∧ QOk w' w.heap.size w.heap.size bw v' ss' ∧ MInv bw (T.drop (m + 1)) ss' ∧ Below w.heap.size w w' := by
  obtain ⟨r, T', v', ss', hT, he, hq, hi, hm⟩ := ht
  have hml : m < T.length := by
    rcases Nat.lt_or_ge m T.length with g | g
    · exact g
    · rw [List.drop_of_length_le g] at hT; cases hT
  rw [List.drop_eq_getElem_cons hml] at hT
  simp only [List.cons.injEq] at hT
  obtain ⟨rfl, rfl⟩ := hT
  refine ⟨hml, v', ss', he, ?_, hq, hi, h.bel.trans (h.q.1.belowM hm.moved)⟩
  exact ownsRow_same h.row fun g hg => hm.keep (ownsRow_type h.row hg).1 (h.apart g hg).1 (h.apart g hg).2

theorem flat_take3 {T : List Rw} {m : Nat} (hm : m < T.length) : (T.take (m + 1)).flatMap cellsR = (T.take m).flatMap cellsR ++ [SV T[m].1, .int .i64 T[m].2.1, SV T[m].2.2] := by
  rw [List.take_succ_eq_append_getElem hm, List.flatMap_append]
  simp [cellsR]

/-- behind the append -/
theorem OutI.more {w w5 w6 : World} {bw : Bool} {T : List Rw} {lim m : Nat} {v v6 v' : Value} {ss' : List Src} {o : Obj} (hml : m < T.length) (hrow : w5.ownsRow w.heap.size 38 3 v m ((T.take m).flatMap cellsR)) (hq : QOk w5 w.heap.size w.heap.size bw v' ss') (hi : MInv bw (T.drop (m + 1)) ss') (hb : Below w.heap.size w w5)
    (hg : (w5.alloc o).grownBy w6 v.ownBlock) (ho : w6.ownsRow w.heap.size 38 3 v6 (m + 1) ((T.take m).flatMap cellsR ++ [SV T[m].1, .int .i64 T[m].2.1, SV T[m].2.2])) : OutI w bw T lim v6 (m + 1) w6 v' ss' := by
  have hbase : w.heap.size ≤ w5.heap.size := hb.size
  have hm6 : Moved (fun b => v.ownBlock = some b) w5 w6 := ((Moved.refl _ w5).alloc o).grown hg (fun k hk => .inl hk)
  have hlow : ∀ b, b < w.heap.size → ¬ v.ownBlock = some b := by
    intro b hb' e
    obtain ⟨ao, c, rfl, -, -, -, hao, -, -⟩ := owns_form hrow
    cases ao with
    | none => cases e
    | some a => cases e; have := (hao a rfl).2.2.1; omega
  refine ⟨by rw [flat_take3 hml]; exact ho, ⟨hq.1.moved hm6 ?_ ?_ hlow, hq.2⟩, hi, hml, ?_⟩
  · intro e
    obtain ⟨-, cur, hc⟩ := ownsRow_type hrow e
    exact ne_of_type hc hq.1.block (by decide) rfl
  · intro g hg' e
    obtain ⟨-, cur, hc⟩ := ownsRow_type hrow e
    obtain ⟨-, cur2, hc2⟩ := ownsRow_type hq.1.row hg'
    exact ne_of_type hc hc2 (by decide) rfl
  · exact hb.trans ⟨hm6.os, hm6.tape, hm6.output, hm6.size, fun k hk => hm6.block k (by omega) (hlow k hk)⟩

/-- a list of rows came out -/
def RowsP (w : World) (R : List Rw) (e : Ending) (w' : World) : Prop := ∃ v', e = .returned v' ∧ w'.ownsRow w.heap.size 38 3 v' R.length (R.flatMap cellsR) ∧ Below w.heap.size w w'

set_option maxRecDepth 10000 in
set_option maxHeartbeats 4000000 in
theorem mRows_any {w : World} {b0 lim : Nat} {bw : Bool} {v : Value} {srcs : List Src} {T : List Rw} (hrow : w.ownsRow b0 105 2 v srcs.length (srcs.flatMap cellsQ)) (hok : ∀ s ∈ srcs, OkSrc w w.heap.size s) (h6 : srcs.length ≤ 6) (hT : MInv bw T srcs) (hl : lim ≤ 50) :
    Calls Tryz.prog 41 #[v, .int .i64 lim, .bool bw] w (RowsP w (T.take lim)) := by
  obtain ⟨i0, hi, hz0, hz1, hz2⟩ := info_parts Tryz.info38
  obtain ⟨ao, cap, rfl, -, -, hnil, hao, hcell, -⟩ := owns_form hrow
  have HN := hide hnil
  have HA := hide hao
  have HC := hide hcell
  have HOK := hide hok
  have HT := hide (show MInv bw T (fullL srcs) from hT.full)
  have hst := QOk.start w bw
  have hbA : Below w.heap.size w (w.alloc (.cells #[.slice none 0 0, .bool bw] 123)) := (Below.refl _ w).alloc (Nat.le_refl _) _
  have HST := hide hst
  have HBA := hide hbA
  clear hrow hnil hao hcell hok hT hst hbA
  go_enter Tryz.func41, Tryz.ntmps41
  go_wp2_with fail
  go_loopw [16] (fun i wr => ∃ (k : Nat) (vS : Value) (ss : List Src), k ≤ srcs.length ∧ i = .int .i64 k ∧ Hid (QOk wr w.heap.size w.heap.size bw vS ss ∧ ss.Perm (fullL (srcs.take k)) ∧ Below w.heap.size w wr)) (fun i _ => srcs.length - (intOf i).toNat)
  case atStart => exact ⟨0, _, [], Nat.zero_le _, rfl, hide ⟨unhide HST, by simp [fullL], unhide HBA⟩⟩
  case round =>
    obtain ⟨k, vS, ss, hk, rfl, HI⟩ := hrel
    by_cases hlt : k < srcs.length
    · obtain ⟨⟨g, o, sp⟩, rfl⟩ : ∃ a, ao = some a := by
        cases ao with
        | none => have := (unhide HN rfl).1; omega
        | some a => exact ⟨a, rfl⟩
      obtain ⟨ho, hsp, -, hgw⟩ := unhide HA _ rfl
      simp only at ho hsp hgw
      subst ho hsp
      obtain ⟨e0, e1⟩ := cellsQ_at srcs k hlt
      have hbr := (unhide HI).2.2
      have m0 := ((hbr.cell (p := ⟨g, k * 2, none⟩) hgw).trans (unhide HC _ rfl _ (by omega))).trans e0
      have m1 := ((hbr.cell (p := ⟨g, k * 2 + 1, none⟩) hgw).trans (unhide HC _ rfl _ (by omega))).trans e1
      have hoks := unhide HOK _ (List.getElem_mem hlt)
      have hb1 : Below wr.heap.size wr (wr.alloc (.cells #[SV srcs[k].lab, srcs[k].vl] 105)) := (Below.refl _ wr).alloc (Nat.le_refl _) _
      have hlen : ss.length < 6 := by
        have h1 := (unhide HI).2.1.length_eq
        have h2 : (fullL (srcs.take k)).length ≤ (srcs.take k).length := List.length_filter_le _ _
        rw [List.length_take] at h2
        omega
      have had := qAdd_any srcs[k] ((unhide HI).1.below hb1) (hoks.below (hbr.trans (hb1.mono hbr.size))) hlen
      have HB1 := hide hb1
      obtain ⟨⟨asx, csx, hvs⟩, -⟩ := hoks
      rw [hvs] at m1 HB1 had
      clear e0 e1 hbr hb1
      have HVS := hide hvs
      clear hvs
      go_wp2_with fail
      refine had.mono ?_
      rintro e w2 ⟨rfl, v', ss', hq2, hp2, hm2⟩
      have HI2 := hide (show QOk w2 w.heap.size w.heap.size bw v' ss' ∧ ss'.Perm (fullL (srcs.take (k + 1))) ∧ Below w.heap.size w w2 from ⟨hq2, fullL_take hlt (unhide HI).2.1 hp2, ((unhide HI).2.2.trans ((unhide HB1).mono (unhide HI).2.2.size)).trans (((unhide HI).1.below (unhide HB1)).1.belowM hm2.moved)⟩)
      clear had hq2 hp2 hm2 m0 m1
      go_wp2_with fail
      go_roundw
      case rel => exact ⟨k + 1, v', ss', by omega, by go_num, HI2⟩
      case measure => simp [intOf]; omega
    · have hks : k = srcs.length := by omega
      subst hks
      have HO := hide (show OutI w bw T lim (.slice none 0 0) 0 wr vS ss from by
        obtain ⟨h1, h2, h3⟩ := unhide HI
        rw [List.take_length] at h2
        exact ⟨World.ownsRow_nil _ _ _ _, h1, (unhide HT).perm h2, Nat.zero_le _, h3⟩)
      clear HI HST HBA
      go_wp2_with fail
      go_loopw [10] (fun v wx => ∃ (m : Nat) (vS : Value) (ss : List Src), m ≤ lim ∧ (∃ a c, v = .slice a m c) ∧ Hid (OutI w bw T lim v m wx vS ss)) (fun v _ => lim - lenV v)
      case atStart => exact ⟨0, vS, ss, Nat.zero_le _, ⟨_, _, rfl⟩, HO⟩
      case round =>
        clear HO
        obtain ⟨m, vS2, ss2, hm, ⟨a, c, rfl⟩, HO⟩ := hrel
        by_cases hml : m < lim
        · have hle := qLen_any (unhide HO).q.1
          by_cases hs0 : 0 < ss2.length
          · have htk := qTake_any (unhide HO).q hs0 (unhide HO).inv
            go_wp2_with fail
            refine hle.mono ?_
            rintro e w4 ⟨rfl, rfl⟩
            clear hle
            go_wp2_with fail
            refine htk.mono ?_
            intro e w5 hTk
            obtain ⟨hmT, v', ss', rfl, hrow5, hq5, hi5, hb5⟩ := (unhide HO).took hTk
            have HK := hide (And.intro hrow5 (And.intro hq5 (And.intro hi5 hb5)))
            have hsz5 := hb5.size
            clear htk hTk hq5 hi5 hb5
            go_wp2_with (at_builtin; refine wpList_append_at _ rfl _ _ 28 rfl w.heap.size 38 i0 _ 3 40 Tryz.underlying28 hi hz0 hz1 hz2 rfl (by decide) _ _ _ rfl (hrow5.alloc _) (some ⟨_, 0, none⟩) 1 1 [SV T[m].1, .int .i64 T[m].2.1, SV T[m].2.2] rfl rfl (by intro e; cases e) (cells_new _ _ _) (by intro u hu; simp at hu; rcases hu with rfl | rfl | rfl <;> rfl) (by unfold maxLen; omega) (by omega) (by simp; omega) ?_; intro v6 w6 hown6 hgrow6 hwh6; have HO6 := hide (OutI.more (lim := lim) hmT (unhide HK).1 (unhide HK).2.1 (unhide HK).2.2.1 (unhide HK).2.2.2 hgrow6 hown6); obtain ⟨a6, c6, rfl, -, -, -, -, -, -⟩ := owns_form hown6; clear hgrow6 hwh6 hown6)
            go_roundw
            case rel => exact ⟨m + 1, v', ss', by omega, ⟨_, _, rfl⟩, HO6⟩
            case measure => simp [lenV]; omega
          · have hs1 : ss2 = [] := List.eq_nil_of_length_eq_zero (by omega)
            subst hs1
            have hdr := (unhide HO).inv.empty
            have HD := hide (show T.take lim = T.take m from by
              rw [List.take_of_length_le (show T.length ≤ lim by have := List.drop_eq_nil_iff.1 hdr; omega), List.take_of_length_le (List.drop_eq_nil_iff.1 hdr)])
            have HLe := hide (show (T.take m).length = m by have := (unhide HO).le; simp; omega)
            clear hdr
            go_wp2_with fail
            refine hle.mono ?_
            rintro e w4 ⟨rfl, rfl⟩
            clear hle
            go_wp2_with fail
            go_ret
            exact ⟨_, rfl, by rw [unhide HD, unhide HLe]; exact (unhide HO).row, (unhide HO).bel⟩
        · have hme : m = lim := by omega
          have hmi : ¬ (m : Int) < (lim : Int) := by omega
          have HLe := hide (show (T.take m).length = m by have := (unhide HO).le; simp; omega)
          subst hme
          go_wp2_with fail
          go_ret
          exact ⟨_, rfl, by rw [unhide HLe]; exact (unhide HO).row, (unhide HO).bel⟩

end Go.Proofs.YtbljamcdaoofbaaGreatDoor

/- strings.SplitSeq at one byte: the iterator, for every loop body. -/
namespace Go.Proofs.YtbljamcdaoofbaaGreatDoor
open Go.RowKit Go.Shelf
attribute [local go_sem] Oper.semAt_some

set_option maxRecDepth 10000 in
set_option maxHeartbeats 400000 in
theorem sIndex_one (l : List UInt8) (c : UInt8) (w : World) :
    Calls Tryz.prog 129 #[.string ⟨l.toArray⟩, .string ⟨#[c]⟩] w fun e w' => e = .returned (.int .i64 (Lib.indexByte l c)) ∧ w' = w := by
  go_enter Tryz.func129, Tryz.ntmps129
  go_wp2_with fail
  refine (index_one l c _).mono ?_
  rintro e w1 ⟨rfl, rfl⟩
  go_wp2
  go_ret
  exact ⟨rfl, rfl⟩

/-- how long the text in a block is -/
def lenAt (b : Nat) (w : World) : Nat := match w.cell? ⟨b, 0, none⟩ with
  | some (.string s) => s.size
  | _ => 0

theorem cut1_shorter {c : UInt8} {t : List UInt8} (h : (cut1 c t).2.2 = true) : (cut1 c t).2.1.length < t.length := by
  rcases cut1_index c t with ⟨-, h2⟩ | ⟨i, -, h2, h3⟩
  · rw [h2] at h; cases h
  · rw [h3]; simp; omega

set_option maxRecDepth 10000 in
set_option maxHeartbeats 2000000 in
theorem split1_in (l bs m : Nat) (J Jm : List UInt8 → World → Prop) (Jx : World → Prop)
    (hJ : ∀ t W, J t W → t.length ≤ 1048576 ∧ W.cell? ⟨bs, 0, none⟩ = some (SV t) ∧ W.cell? ⟨bs + 1, 0, none⟩ = some (SV [44]) ∧ W.cell? ⟨bs + 2, 0, none⟩ = some (.int .i64 0))
    (hm : ∀ t W, Jm t W → W.cell? ⟨bs, 0, none⟩ = some (SV t) ∧ W.frozen? ⟨bs, 0, none⟩ = false ∧ W.cell? ⟨bs + 1, 0, none⟩ = some (SV [44]))
    (hY : ∀ t W, J t W → YieldAt Fence.wide (m - 1) Tryz.prog l #[SV (cut1 44 t).1] W fun e W' => (e = .returned (.bool true) ∧ Jm t W') ∨ (e = .returned (.bool false) ∧ Jx W'))
    (hS : ∀ t W, Jm t W → (cut1 44 t).2.2 = true → J (cut1 44 t).2.1 (W.setCell ⟨bs, 0, none⟩ (SV (cut1 44 t).2.1)))
    (text : List UInt8) (W : World) (h0 : J text W) :
    CallsIn Fence.wide m Tryz.prog 136 #[.func (.yield l) #[] #[], .pointer (some ⟨bs + 1, 0, none⟩), .pointer (some ⟨bs, 0, none⟩), .pointer (some ⟨bs + 2, 0, none⟩)] W fun e W' => (∃ v, e = .returned v) ∧ ((∃ t, (cut1 44 t).2.2 = false ∧ Jm t W') ∨ Jx W') := by
  refine callsIn_of_wp Tryz.func136 rfl trivial ?_ rfl
  simp only [Tryz.ntmps136, List.size_toArray, List.length_cons, List.length_nil, Nat.reduceAdd, Nat.reduceSub, Array.replicate_succ, Array.replicate_zero, List.push_toArray, List.append_toArray, List.nil_append, List.cons_append]
  obtain ⟨-, -, c1, -⟩ := hJ _ _ h0
  gi_wp2
  gi_loopw [7] (fun _ wr => ∃ t, J t wr) (fun _ wr => lenAt bs wr)
  case atStart => exact ⟨text, h0⟩
  case round =>
    obtain ⟨t, hj⟩ := hrel
    obtain ⟨htl, d0, d1, d2⟩ := hJ _ _ hj
    obtain ⟨f1, t1, a1, b1, hy1, hR1⟩ := hY _ _ hj
    rcases cut1_index 44 t with ⟨h1, h2⟩ | ⟨i, h1, h2, h3⟩
    · have hb : (cut1 44 t).2.2 = false := by rw [h2]
      rw [show (cut1 44 t).1 = t by rw [h2]] at hy1
      have HB := hide hb
      have HM := hide hm
      have HJ := hide hJ
      clear h2 hb hm hJ hS hY
      gi_wp2_with fail
      refine ⟨trivial, fun h => (by cases h), ?_⟩
      refine (callsIn_wide.2 (sIndex_one t 44 _)).mono ?_
      rintro e w' ⟨rfl, rfl⟩
      rw [h1]
      gi_wp2
      refine ⟨fun h => (by cases h), hR1.mono ?_⟩
      rintro e W3 (⟨rfl, hJ3⟩ | ⟨rfl, hJx3⟩)
      · gi_wp2
        go_end0
        exact ⟨⟨_, rfl⟩, .inl ⟨t, unhide HB, hJ3⟩⟩
      · gi_wp2
        go_end0
        exact ⟨⟨_, rfl⟩, .inr hJx3⟩
    · have hb : (cut1 44 t).2.2 = true := by rw [h3]
      have hx1 : (cut1 44 t).1 = t.take i := by rw [h3]
      have hx2 : (cut1 44 t).2.1 = t.drop (i + 1) := by rw [h3]
      have hsh := cut1_shorter hb
      have e1 : (⟨t.toArray⟩ : ByteArray).extract 0 i = ⟨(t.take i).toArray⟩ := by rw [extract_list]; simp
      have e2 : (⟨t.toArray⟩ : ByteArray).extract (i + 1) t.length = ⟨(t.drop (i + 1)).toArray⟩ := by rw [extract_list]; simp
      rw [hx1] at hy1
      have hsz : (⟨t.toArray⟩ : ByteArray).size = t.length := by simp [ByteArray.size]
      have hy2 : (Instr.yield l #[.string ((⟨t.toArray⟩ : ByteArray).extract 0 i)]).run Tryz.prog wr = Result.ok (Next.round l f1 t1 a1 b1) wr := by rw [e1]; exact hy1
      have HY1 := hide hy1
      have HB := hide hb
      have HM := hide hm
      have HJ := hide hJ
      have HS := hide hS
      have HX2 := hide hx2
      have HSH := hide hsh
      have HE2 := hide e2
      clear h3 hb hm hJ hS hY e1 hx1 hx2 hsh e2 hy1
      gi_wp2_with fail
      refine ⟨trivial, fun h => (by cases h), ?_⟩
      refine (callsIn_wide.2 (sIndex_one t 44 _)).mono ?_
      rintro e w' ⟨rfl, rfl⟩
      rw [h1]
      gi_wp2
      refine ⟨fun h => (by cases h), hR1.mono ?_⟩
      rintro e W3 (⟨rfl, hJ3⟩ | ⟨rfl, hJx3⟩)
      · obtain ⟨m0, m1, m2⟩ := unhide HM _ _ hJ3
        have hj4 : J (t.drop (i + 1)) (W3.setCell ⟨bs, 0, none⟩ (.string ((⟨t.toArray⟩ : ByteArray).extract (i + 1) t.length))) := by
          have h := unhide HS _ _ hJ3 (unhide HB)
          rw [unhide HX2] at h
          rw [unhide HE2]
          exact h
        have HJ4 := hide hj4
        clear hj4
        gi_wp2
        go_roundw
        case rel => exact ⟨_, unhide HJ4⟩
        case measure =>
          obtain ⟨-, q0, -, -⟩ := unhide HJ _ _ (unhide HJ4)
          have r1 : lenAt bs w' = t.length := by simp [lenAt, d0, ByteArray.size]
          have r2 : lenAt bs (W3.setCell ⟨bs, 0, none⟩ (.string ((⟨t.toArray⟩ : ByteArray).extract (i + 1) t.length))) = (t.drop (i + 1)).length := by
            rw [lenAt, q0]
            simp [ByteArray.size]
          have r3 := unhide HSH
          rw [unhide HX2] at r3
          omega
      · gi_wp2
        refine bodyPost_ret (results_none rfl _ _ _) rfl ?_
        exact ⟨⟨_, rfl⟩, .inr hJx3⟩

end Go.Proofs.YtbljamcdaoofbaaGreatDoor

/- The program's label.Value: a range over strings.SplitSeq. -/
namespace Go.Proofs.YtbljamcdaoofbaaGreatDoor
open Go.RowKit Go.Shelf
attribute [local go_sem] Oper.semAt_some

/-- the value behind a name, as the program finds it -/
def valueP (name : List UInt8) : List (List UInt8) → List UInt8
  | [] => []
  | p :: r => if ((cut1 61 p).1 == name) = true then (cut1 61 p).2.1 else valueP name r

theorem valueP_hit {name t : List UInt8} (h : ((cut1 61 (cut1 44 t).1).1 == name) = true) : valueP name (cutL 44 t) = (cut1 61 (cut1 44 t).1).2.1 := by
  rw [cutL_cut1, valueP, if_pos h]
theorem valueP_miss {name t : List UInt8} (h : ((cut1 61 (cut1 44 t).1).1 == name) = false) (hm : (cut1 44 t).2.2 = true) : valueP name (cutL 44 t) = valueP name (cutL 44 (cut1 44 t).2.1) := by
  rw [cutL_cut1, valueP, if_neg (by simp [h]), if_pos hm]
theorem valueP_end {name t : List UInt8} (h : ((cut1 61 (cut1 44 t).1).1 == name) = false) (hm : (cut1 44 t).2.2 = false) : valueP name (cutL 44 t) = [] := by
  rw [cutL_cut1, valueP, if_neg (by simp [h]), if_neg (by simp [hm])]
  rfl

set_option maxRecDepth 10000 in
set_option maxHeartbeats 400000 in
theorem splitSeq_any (s sep : ByteArray) (w : World) :
    Calls Tryz.prog 82 #[.string s, .string sep] w fun e w' => e = .returned (.func (.func 136) #[] #[.pointer (some ⟨w.heap.size + 1, 0, none⟩), .pointer (some ⟨w.heap.size, 0, none⟩), .pointer (some ⟨w.heap.size + 1 + 1, 0, none⟩)]) ∧ w' = ((w.alloc (.cells #[.string s] 9)).alloc (.cells #[.string sep] 9)).alloc (.cells #[.int .i64 0] 3) := by
  have h136 : Calls Tryz.prog 110 #[.string s, .string sep, .int .i64 0] w fun e w' => e = .returned (.func (.func 136) #[] #[.pointer (some ⟨w.heap.size + 1, 0, none⟩), .pointer (some ⟨w.heap.size, 0, none⟩), .pointer (some ⟨w.heap.size + 1 + 1, 0, none⟩)]) ∧ w' = ((w.alloc (.cells #[.string s] 9)).alloc (.cells #[.string sep] 9)).alloc (.cells #[.int .i64 0] 3) := by
    go_enter Tryz.func110, Tryz.ntmps110
    go_wp2
    go_ret
    exact ⟨rfl, rfl⟩
  go_enter Tryz.func82, Tryz.ntmps82
  go_wp2_with fail
  refine h136.mono ?_
  rintro e w1 ⟨rfl, rfl⟩
  go_wp2
  go_ret
  exact ⟨rfl, rfl⟩

/-- The world while label.Value ranges: w is the one at its call. -/
structure VAt (w W : World) (name res rest : List UInt8) (r : Loop) : Prop where
  below : Below w.heap.size w W
  size : W.heap.size = w.heap.size + 7
  name : W.heap[w.heap.size]? = some (.cells #[SV name] 9 (0, 0))
  res : W.heap[w.heap.size + 1]? = some (.cells #[SV res] 9 (0, 0))
  s : W.heap[w.heap.size + 2]? = some (.cells #[SV rest] 9 (0, 0))
  sep : W.heap[w.heap.size + 3]? = some (.cells #[SV [44]] 9 (0, 0))
  save : W.heap[w.heap.size + 4]? = some (.cells #[.int .i64 0] 3 (0, 0))
  dfr : W.heap[w.heap.size + 5]? = some (.deferred (some []))
  rec_ : W.heap[w.heap.size + 6]? = some (.loop r)

theorem cell1 {w : World} {p : Nat} {v0 : Value} {t : TypeId} (h : w.heap[p]? = some (.cells #[v0] t (0, 0))) : w.cell? ⟨p, 0, none⟩ = some v0 ∧ w.frozen? ⟨p, 0, none⟩ = false :=
  ⟨by simp [World.cell?, h], by simp [World.frozen?, h]⟩
theorem block1_set {w : World} {p : Nat} {v0 : Value} {t : TypeId} (h : w.heap[p]? = some (.cells #[v0] t (0, 0))) (u : Value) : (w.setCell ⟨p, 0, none⟩ u).heap[p]? = some (.cells #[u] t (0, 0)) := by
  simp [World.setCell, Array.getElem?_modify, h]

theorem VAt.setS {w W : World} {name res rest : List UInt8} {r : Loop} (h : VAt w W name res rest r) (x : List UInt8) : VAt w (W.setCell ⟨w.heap.size + 2, 0, none⟩ (SV x)) name res x r := by
  have ho : ∀ k, k ≠ w.heap.size + 2 → (W.setCell ⟨w.heap.size + 2, 0, none⟩ (SV x)).heap[k]? = W.heap[k]? := fun k hk => Go.RowKit.Below.heap_setCell _ _ _ _ hk
  refine ⟨h.below.setCell (p := ⟨w.heap.size + 2, 0, none⟩) (by show _ ≤ w.heap.size + 2; omega) _, ?_, (ho _ (by omega)).trans h.name, (ho _ (by omega)).trans h.res, block1_set h.s _, (ho _ (by omega)).trans h.sep, (ho _ (by omega)).trans h.save, (ho _ (by omega)).trans h.dfr, (ho _ (by omega)).trans h.rec_⟩
  have := h.size
  simpa [World.setCell] using this
theorem VAt.setR {w W : World} {name res rest : List UInt8} {r : Loop} (h : VAt w W name res rest r) (x : List UInt8) : VAt w (W.setCell ⟨w.heap.size + 1, 0, none⟩ (SV x)) name x rest r := by
  have ho : ∀ k, k ≠ w.heap.size + 1 → (W.setCell ⟨w.heap.size + 1, 0, none⟩ (SV x)).heap[k]? = W.heap[k]? := fun k hk => Go.RowKit.Below.heap_setCell _ _ _ _ hk
  refine ⟨h.below.setCell (p := ⟨w.heap.size + 1, 0, none⟩) (by show _ ≤ w.heap.size + 1; omega) _, ?_, (ho _ (by omega)).trans h.name, block1_set h.res _, (ho _ (by omega)).trans h.s, (ho _ (by omega)).trans h.sep, (ho _ (by omega)).trans h.save, (ho _ (by omega)).trans h.dfr, (ho _ (by omega)).trans h.rec_⟩
  have := h.size
  simpa [World.setCell] using this
theorem VAt.put {w W : World} {name res rest : List UInt8} {r : Loop} (h : VAt w W name res rest r) (r' : Loop) : VAt w (W.putObj (w.heap.size + 6) (.loop r')) name res rest r' := by
  have ho : ∀ k, k ≠ w.heap.size + 6 → (W.putObj (w.heap.size + 6) (.loop r')).heap[k]? = W.heap[k]? := fun k hk => World.putObj_heap_other hk
  have hs := h.size
  refine ⟨h.below.trans (belowK_b (w := w) (Nat.le_refl _) W _ (.loop r) (.loop r') (by omega) h.rec_ rfl rfl), by simpa using hs, (ho _ (by omega)).trans h.name, (ho _ (by omega)).trans h.res, (ho _ (by omega)).trans h.s, (ho _ (by omega)).trans h.sep, (ho _ (by omega)).trans h.save, (ho _ (by omega)).trans h.dfr, World.putObj_heap_same (by omega)⟩
theorem VAt.drawn {w W : World} {name res rest : List UInt8} {r : Loop} (h : VAt w W name res rest r) (n : Nat) : VAt w (W.drewN n) name res rest r :=
  ⟨Go.Proofs.YtbljamcdaoofbaaGreatDoor.Below.drawn h.below n, h.size, h.name, h.res, h.s, h.sep, h.save, h.dfr, h.rec_⟩

/-- A range over SplitSeq's function, in label.Value's world: the body goes on where the piece has another name, and returns with its value where it has this one. -/
theorem vrange {assign body : Code} {Q : Exit → Act → World → Prop} {a : Act} {g : Operand} (w W5 : World) (l name : List UInt8)
    (h5 : ∀ r, VAt w ((W5.alloc (.deferred (some []))).alloc (.loop r)) name [] l r) (hsz : W5.heap.size = w.heap.size + 5)
    (hg : a.eval g = .func (.func 136) #[] #[.pointer (some ⟨w.heap.size + 2 + 1, 0, none⟩), .pointer (some ⟨w.heap.size + 2, 0, none⟩), .pointer (some ⟨w.heap.size + 2 + 2, 0, none⟩)])
    (hl : l.length ≤ 1048576) (a₁ : List UInt8 → Act)
    (hassign : ∀ (x : List UInt8) (W : World) (K : Act → World → Prop), K (a₁ x) W →
      assign.wpIn (Fence.wide.inRound (w.heap.size + 6)) (3 - 1 - 1) Tryz.prog (Exit.then K (fun _ _ _ => False)) { tmps := ((#[11] : Array Tmp).zip #[SV x]).foldl (fun t (p, v) => t.setIfInBounds p v) a.tmps, defers := [] } W)
    (hbody : ∀ (t : List UInt8) (W : World) (r : Loop), VAt w W name [] t r → t.length ≤ 1048576 →
      body.wpIn (Fence.wide.inRound (w.heap.size + 6)) (3 - 1 - 1) Tryz.prog (fun e _ W' => (e = .normal ∧ ((cut1 61 (cut1 44 t).1).1 == name) = false ∧ VAt w W' name [] t r) ∨ (e = .ret ∧ ((cut1 61 (cut1 44 t).1).1 == name) = true ∧ VAt w W' name (cut1 61 (cut1 44 t).1).2.1 t r)) (a₁ (cut1 44 t).1) W)
    (hdone : ∀ (W : World) (t : List UInt8) (r : Loop), VAt w W name [] t r → valueP name (cutL 44 l) = [] → Q .normal { a with defers := { target := .collected (w.heap.size + 5), args := #[] } :: a.defers } W)
    (hstop : ∀ (W : World) (t : List UInt8) (r : Loop), VAt w W name (valueP name (cutL 44 l)) t r → Code.ret.wpIn Fence.wide 3 Tryz.prog Q { a with defers := { target := .collected (w.heap.size + 5), args := #[] } :: a.defers } W) :
    (Code.rangeFunc g #[11] assign body).wpIn Fence.wide 3 Tryz.prog Q a W5 := by
  refine wpIn_rangeFunc ?_
  intro fn hfn
  obtain ⟨rec, hrec⟩ : ∃ rec : LoopState → Option Code → Loop, rec = fun st pe => { state := st, pending := pe, fn, tmps := a.tmps, params := #[11], assign, body, defers := W5.heap.size } := ⟨_, rfl⟩
  have hv0 := h5 (rec .ready none)
  generalize hW1 : (W5.alloc (.deferred (some []))).alloc (.loop (rec .ready none)) = W1 at hv0
  refine ⟨w.heap.size + 6, [{ target := .collected (w.heap.size + 5), args := #[] }], W1, { target := .fn (.func 136) #[.pointer (some ⟨w.heap.size + 2 + 1, 0, none⟩), .pointer (some ⟨w.heap.size + 2, 0, none⟩), .pointer (some ⟨w.heap.size + 2 + 2, 0, none⟩)], args := #[.func (.yield (w.heap.size + 6)) #[] #[]] }, W1, 136,
    #[.func (.yield (w.heap.size + 6)) #[] #[], .pointer (some ⟨w.heap.size + 2 + 1, 0, none⟩), .pointer (some ⟨w.heap.size + 2, 0, none⟩), .pointer (some ⟨w.heap.size + 2 + 2, 0, none⟩)], W1, ?_, ?_, fun _ _ => trivial, ?_, fun _ => by omega, ?_⟩
  · have := run_enterLoop_outer (P := Tryz.prog) (w := W5) fn a.tmps #[11] assign body
    rw [hsz] at this
    rw [← hW1, hrec, hsz]
    exact this
  · simp only [resolve, hg]
    simp [go_sem]
  · simp [invoke, go_sem]
  · refine (split1_in (w.heap.size + 6) (w.heap.size + 2) (3 - 1)
      (fun t W => VAt w W name [] t (rec .ready none) ∧ t.length ≤ 1048576 ∧ valueP name (cutL 44 l) = valueP name (cutL 44 t))
      (fun t W => VAt w W name [] t (rec .ready none) ∧ t.length ≤ 1048576 ∧ valueP name (cutL 44 l) = valueP name (cutL 44 t) ∧ ((cut1 61 (cut1 44 t).1).1 == name) = false)
      (fun W => ∃ t, VAt w W name (valueP name (cutL 44 l)) t (rec .done (some .ret))) ?_ ?_ ?_ ?_ l W1 ⟨hv0, hl, rfl⟩).mono ?_
    · rintro t W ⟨hv, htl, -⟩
      exact ⟨htl, (cell1 hv.s).1, (cell1 hv.sep).1, (cell1 hv.save).1⟩
    · rintro t W ⟨hv, -⟩
      exact ⟨(cell1 hv.s).1, (cell1 hv.s).2, (cell1 hv.sep).1⟩
    · rintro t W ⟨hv, htl, he⟩
      have hy := run_yield (P := Tryz.prog) (args := #[SV (cut1 44 t).1]) hv.rec_ (by rw [hrec]; rfl)
      rw [hrec] at hy
      refine ⟨fn, _, assign, body, hy, roundIn_of_wpIn hfn (hassign _ W _ ⟨_, run_beginRound hv.rec_ (by rw [hrec]), ?_⟩)⟩
      have hv2 := hv.put { rec .ready none with state := .busy }
      refine wpIn_mono (hbody t _ _ hv2 htl) ?_
      rintro e a3 W3 (⟨rfl, hn, hv3⟩ | ⟨rfl, hn, hv3⟩)
      · have hr := run_endRound (P := Tryz.prog) none hv3.rec_
        refine ⟨_, _, hr, .inl ⟨rfl, ?_, htl, he, hn⟩⟩
        have := hv3.put { ({ rec .ready none with state := .busy } : Loop) with state := .ready, pending := none }
        rw [hrec] at this ⊢
        exact this
      · have hr := run_endRound (P := Tryz.prog) (some .ret) hv3.rec_
        refine ⟨_, _, hr, .inr ⟨rfl, t, ?_⟩⟩
        have := hv3.put { ({ rec .ready none with state := .busy } : Loop) with state := .done, pending := some .ret }
        rw [he, valueP_hit hn]
        rw [hrec] at this ⊢
        exact this
    · rintro t W ⟨hv, htl, he, hn⟩ hm
      have := cut1_shorter hm
      exact ⟨hv.setS _, by omega, he.trans (valueP_miss hn hm)⟩
    · rintro e W2 ⟨⟨v, rfl⟩, (⟨t, hm, hv, htl, he, hn⟩ | ⟨t, hv⟩)⟩
      · refine ⟨none, _, by have := run_endLoop (P := Tryz.prog) hv.rec_ (by rw [hrec]; simp); rw [hrec] at this; exact this, ?_⟩
        exact hdone _ t _ (hv.put _) (he.trans (valueP_end hn hm))
      · refine ⟨some .ret, _, by have := run_endLoop (P := Tryz.prog) hv.rec_ (by rw [hrec]; simp); rw [hrec] at this; exact this, ?_⟩
        exact hstop _ t _ (hv.put _)

set_option maxRecDepth 100000 in
set_option maxHeartbeats 4000000 in
theorem pvalue_in (l name : List UInt8) (w : World) (hl : l.length ≤ 1048576) :
    Calls Tryz.prog 53 #[.string ⟨l.toArray⟩, .string ⟨name.toArray⟩] w fun e w' => e = .returned (SV (valueP name (cutL 44 l))) ∧ Below w.heap.size w w' := by
  refine (callsIn_wide (n := 3)).1 ?_
  refine callsIn_of_wp_marks Tryz.func53 rfl trivial ?_ rfl
  simp only [Tryz.ntmps53, List.size_toArray, List.length_cons, List.length_nil, Nat.reduceAdd, Nat.reduceSub, Array.replicate_succ, Array.replicate_zero, List.push_toArray, List.append_toArray, List.nil_append, List.cons_append]
  gi_wp2_with fail
  refine ⟨trivial, ?_⟩
  refine (callsIn_wide.2 (splitSeq_any _ _ _)).mono ?_
  rintro e w' ⟨rfl, rfl⟩
  gi_wp2_with fail
  refine vrange w _ l name ?_ (by simp) rfl hl (fun x => { tmps := #[SV l, SV name, undef, .pointer (some ⟨w.heap.size, 0, none⟩), .pointer (some ⟨w.heap.size + 1, 0, none⟩), SV x, undef, undef, undef, SV l, .func (.func 136) #[] #[.pointer (some ⟨w.heap.size + 1 + 1 + 1, 0, none⟩), .pointer (some ⟨w.heap.size + 1 + 1, 0, none⟩), .pointer (some ⟨w.heap.size + 1 + 1 + 1 + 1, 0, none⟩)], SV x, undef, undef, undef, undef, undef, undef, undef, undef, undef, undef], defers := [] }) ?assign ?body ?done ?stop
  · intro r
    have e2 : w.heap.size + 2 = w.heap.size + 1 + 1 := by omega
    have e3 : w.heap.size + 3 = w.heap.size + 1 + 1 + 1 := by omega
    have e4 : w.heap.size + 4 = w.heap.size + 1 + 1 + 1 + 1 := by omega
    have e5 : w.heap.size + 5 = w.heap.size + 1 + 1 + 1 + 1 + 1 := by omega
    have e6 : w.heap.size + 6 = w.heap.size + 1 + 1 + 1 + 1 + 1 + 1 := by omega
    refine ⟨?_, by simp, ?_, ?_, ?_, ?_, ?_, ?_, ?_⟩
    · exact (((((((Below.refl _ w).alloc (Nat.le_refl _) _).alloc (by simp; try omega) _).alloc (by simp; try omega) _).alloc (by simp; try omega) _).alloc (by simp; try omega) _).alloc (by simp; try omega) _).alloc (by simp; try omega) _
    all_goals simp only [World.alloc, Array.getElem?_push, Array.size_push]
    all_goals (repeat' split)
    all_goals first | rfl | omega | (simp_all; done) | (exfalso; omega)
  case assign =>
    intro x W K hK
    gi_wp2
    exact hK
  case body =>
    intro t W r hv htl
    have hcl := cut1_len 44 t
    obtain ⟨c0, -⟩ := cell1 hv.name
    obtain ⟨c1, f1⟩ := cell1 hv.res
    gi_wp2_with fail
    refine ⟨trivial, ?_⟩
    refine (CallsIn.inRound _ (callsIn_wide.2 (cut_one (cut1 44 t).1 61 _ (by omega)))).mono ?_
    rintro e w1 ⟨rfl, n1, rfl⟩
    have HV := hide (hv.drawn n1)
    have HV2 := hide ((hv.drawn n1).setR (cut1 61 (cut1 44 t).1).2.1)
    clear hv
    generalize hP : cut1 61 (cut1 44 t).1 = P at HV2 ⊢
    obtain ⟨p1, p2, p3⟩ := P
    have HP := hide hP
    clear hP
    cases hb : (p1 == name) with
    | true =>
      have HB := hide hb
      gi_wp2
      rw [unhide HP]
      exact ⟨by simpa using unhide HB, unhide HV2⟩
    | false =>
      have HB := hide hb
      gi_wp2
      rw [unhide HP]
      exact ⟨by simpa using unhide HB, unhide HV⟩
  case done =>
    intro W t r hv he
    obtain ⟨c1, f1⟩ := cell1 hv.res
    gi_wp2
    have hv2 := hv.setR []
    refine ⟨by simp, .inl ⟨_, _, rfl, run_takeDeferred hv2.dfr, ?_⟩⟩
    refine ⟨SV [], ?_, by rw [he], ?_⟩
    · have hc := (cell1 ((World.putObj_heap_other (w := W.setCell ⟨w.heap.size + 1, 0, none⟩ (SV [])) (r := w.heap.size + 5) (o := .deferred none) (by omega : w.heap.size + 1 ≠ w.heap.size + 5)).trans hv2.res)).1
      simp [results, Tryz.f53, go_sem, hc]
    · exact hv2.below.trans (belowK_b (w := w) (Nat.le_refl _) _ _ (.deferred (some [])) _ (by omega) hv2.dfr rfl rfl)
  case stop =>
    intro W t r hv
    gi_wp2
    refine ⟨by simp, .inl ⟨_, _, rfl, run_takeDeferred hv.dfr, ?_⟩⟩
    refine ⟨SV (valueP name (cutL 44 l)), ?_, rfl, ?_⟩
    · have hc := (cell1 ((World.putObj_heap_other (w := W) (r := w.heap.size + 5) (o := .deferred none) (by omega : w.heap.size + 1 ≠ w.heap.size + 5)).trans hv.res)).1
      simp [results, Tryz.f53, go_sem, hc]
    · exact hv.below.trans (belowK_b (w := w) (Nat.le_refl _) _ _ (.deferred (some [])) _ (by omega) hv.dfr rfl rfl)

end Go.Proofs.YtbljamcdaoofbaaGreatDoor
