/- Texts PUp, PDown, PQPush, PQPop, PHeap, PMerge, joined. -/
import Derived.Test.YtbljamcdaoofbaaGreatDoorPWholeToPSwap
import Derived.Test.YtbljamcdaoofbaaGreatDoorPLessOne
import Derived.Handy
import Derived.Test.YtbljamcdaoofbaaGreatDoorSourcesToPTok
/- container/heap's up, over the queue. -/
namespace Go.Proofs.YtbljamcdaoofbaaGreatDoor
open Go.RowKit

theorem Moved.tr {F : Nat → Prop} {a b c : World} (h : Moved F a b) (k : Moved F b c) : Moved F a c := h.trans k (fun _ g => .inl g)
theorem Moved.ofB {F : Nat → Prop} {a b c : World} (h : Moved F a b) (k : Below b.heap.size b c) : Moved F a c := h.tr (Moved.of_below k)

theorem swapL_q {ss : List Src} {i j : Nat} (hi : i < ss.length) (hj : j < ss.length) : (swapL qd ss i j).Perm ss := swapL_perm hi hj

theorem getD_q {ss : List Src} {i : Nat} (hi : i < ss.length) : ss.getD i qd = ss[i] := by simp [List.getD_eq_getElem?_getD, hi]

/-- the state of up: the queue, its sources' order turned, a heap but for m -/
def UpI (w : World) (base qp : Nat) (bw : Bool) (vS : Value) (ss : List Src) (wr : World) (L : List Src) (m : Nat) : Prop :=
  QAt wr base qp bw vS L ∧ L.Perm ss ∧ HUp (lessS bw) qd L ss.length m ∧ Moved (qF qp vS) w wr

set_option maxRecDepth 10000 in
set_option maxHeartbeats 4000000 in
theorem hUp_any {w : World} {base qp : Nat} {bw : Bool} {vS : Value} {ss : List Src} (j : Nat) (h : QAt w base qp bw vS ss) (hj : j < ss.length) (hh : HUp (lessS bw) qd ss ss.length j) :
    Calls Tryz.prog 127 #[.iface 121 (.pointer (some ⟨qp, 0, none⟩)), .int .i64 j] w fun e w' => e = .returned (.tuple #[]) ∧ ∃ ss', QAt w' base qp bw vS ss' ∧ ss'.Perm ss ∧ HeapOk (lessS bw) qd ss' ss'.length ∧ Moved (qF qp vS) w w' := by
  have HS := hide h
  have HH := hide hh
  have hfew := h.few
  clear h hh
  go_enter Tryz.func127, Tryz.ntmps127
  go_wp2_with fail
  go_loopw [1] (fun v wr => ∃ (m : Nat) (L : List Src), m < ss.length ∧ v = .int .i64 m ∧ Hid (UpI w base qp bw vS ss wr L m)) (fun v _ => (intOf v).toNat)
  case atStart => exact ⟨j, ss, hj, rfl, hide ⟨unhide HS, List.Perm.refl _, unhide HH, Moved.refl _ _⟩⟩
  case round =>
    obtain ⟨m, L, hm, rfl, HI⟩ := hrel
    have hlen : L.length = ss.length := (unhide HI).2.1.length_eq
    by_cases h0 : m = 0
    · subst h0
      go_wp2_with fail
      go_end0
      obtain ⟨i1, i2, i3, i4⟩ := unhide HI
      exact ⟨rfl, L, i1, i2, by rw [hlen]; exact i3.done (.inl rfl), i4⟩
    · have hml : m < L.length := by omega
      have hpl : (m - 1) / 2 < L.length := by omega
      have hl := qLess_any m ((m - 1) / 2) (unhide HI).1 hml hpl
      have hp : (m - 1) / 2 < m := by omega
      have HQ2 := hide (show ((m : Int) - 1) / 2 = (((m - 1) / 2 : Nat) : Int) by omega)
      have hne : ¬ (((m - 1) / 2 : Nat) : Int) = (m : Int) := by omega
      have e1 := getD_q hml
      have e2 := getD_q hpl
      have HE1 := hide e1
      have HE2 := hide e2
      clear e1 e2
      go_wp2_with fail
      rw [unhide HQ2]
      refine hl.mono ?_
      rintro e w1 ⟨rfl, hb1⟩
      clear hl
      have HB1 := hide hb1
      clear hb1
      cases hb : lessS bw L[m] L[(m - 1) / 2] with
      | false =>
        have HB := hide hb
        go_wp2_with fail
        go_end0
        obtain ⟨i1, i2, i3, i4⟩ := unhide HI
        refine ⟨rfl, L, i1.below (unhide HB1), i2, ?_, i4.ofB (unhide HB1)⟩
        rw [hlen]
        exact i3.done (.inr (by rw [unhide HE1, unhide HE2]; exact unhide HB))
      | true =>
        have HB := hide hb
        have hsw := qSwap_any ((m - 1) / 2) m ((unhide HI).1.below (unhide HB1)) hpl hml
        go_wp2_with fail
        refine hsw.mono ?_
        rintro e w2 ⟨rfl, hq2, hm2⟩
        clear hsw
        have HQQ := hide hq2
        have HM2 := hide hm2
        clear hq2 hm2
        go_wp2_with fail
        go_roundw
        case rel =>
          obtain ⟨i1, i2, i3, i4⟩ := unhide HI
          refine ⟨(m - 1) / 2, swapL qd L ((m - 1) / 2) m, by omega, by go_num, hide ⟨unhide HQQ, (swapL_q hpl hml).trans i2, ?_, (i4.ofB (unhide HB1)).tr (unhide HM2)⟩⟩
          exact i3.step (lessS_ord bw) hml (by omega) (by omega) (by omega) (by rw [unhide HE1, unhide HE2]; exact unhide HB)
        case measure => simp [intOf]; omega

end Go.Proofs.YtbljamcdaoofbaaGreatDoor

/- container/heap's down, over the queue. -/
namespace Go.Proofs.YtbljamcdaoofbaaGreatDoor
open Go.RowKit

theorem swapL_drop {l : List Src} {i j n : Nat} (hi : i < n) (hj : j < n) : (swapL qd l i j).drop n = l.drop n := by
  unfold swapL
  rw [List.drop_set_of_lt hj, List.drop_set_of_lt hi]

/-- the state of down: the queue, its sources' order turned, a heap but for m; from n on as it was -/
structure DownI (w : World) (base qp : Nat) (bw : Bool) (vS : Value) (ss : List Src) (n : Nat) (wr : World) (L : List Src) (m : Nat) : Prop where
  q : QAt wr base qp bw vS L
  perm : L.Perm ss
  down : HDown (lessS bw) qd L n m
  keep : L.drop n = ss.drop n
  moved : Moved (qF qp vS) w wr

theorem DownI.below {w wr w' : World} {base qp n m : Nat} {bw : Bool} {vS : Value} {ss L : List Src} (h : DownI w base qp bw vS ss n wr L m) (hb : Below wr.heap.size wr w') : DownI w base qp bw vS ss n w' L m :=
  ⟨h.q.below hb, h.perm, h.down, h.keep, h.moved.ofB hb⟩

theorem child_cases {i m : Nat} (h0 : 0 < i) (h : (i - 1) / 2 = m) : i = 2 * m + 1 ∨ i = 2 * m + 2 := by omega

def DownE (w : World) (base qp : Nat) (bw : Bool) (vS : Value) (ss : List Src) (n : Nat) (e : Ending) (w' : World) : Prop :=
  (∃ b, e = .returned (.bool b)) ∧ ∃ ss', QAt w' base qp bw vS ss' ∧ ss'.Perm ss ∧ HeapOk (lessS bw) qd ss' n ∧ ss'.drop n = ss.drop n ∧ Moved (qF qp vS) w w'

theorem DownI.fin {w wr : World} {base qp n m : Nat} {bw b : Bool} {vS : Value} {ss L : List Src} (h : DownI w base qp bw vS ss n wr L m) (hc : ∀ i, 0 < i → i < n → (i - 1) / 2 = m → lessS bw (L.getD i qd) (L.getD m qd) = false) : DownE w base qp bw vS ss n (.returned (.bool b)) wr :=
  ⟨⟨b, rfl⟩, L, h.q, h.perm, h.down.done hc, h.keep, h.moved⟩

theorem DownI.next {w wr w' : World} {base qp n m j : Nat} {bw : Bool} {vS : Value} {ss L : List Src} (h : DownI w base qp bw vS ss n wr L m) (hn : n ≤ L.length) (hj : j < n) (h0 : 0 < j) (hjm : (j - 1) / 2 = m) (hlt : lessS bw (L.getD j qd) (L.getD m qd) = true)
    (hmin : ∀ i, 0 < i → i < n → (i - 1) / 2 = m → lessS bw (L.getD i qd) (L.getD j qd) = false) (hq : QAt w' base qp bw vS (swapL qd L m j)) (hm : Moved (qF qp vS) wr w') : DownI w base qp bw vS ss n w' (swapL qd L m j) j :=
  ⟨hq, (swapL_q (by omega) (by omega)).trans h.perm, h.down.step (lessS_ord bw) hn h0 hj hjm hlt hmin, (swapL_drop (by omega) hj).trans h.keep, h.moved.tr hm⟩

set_option maxRecDepth 10000 in
set_option maxHeartbeats 4000000 in
theorem hDown_any {w : World} {base qp n : Nat} {bw : Bool} {vS : Value} {ss : List Src} (h : QAt w base qp bw vS ss) (hn : n ≤ ss.length) (hh : HDown (lessS bw) qd ss n 0) :
    Calls Tryz.prog 128 #[.iface 121 (.pointer (some ⟨qp, 0, none⟩)), .int .i64 0, .int .i64 n] w (DownE w base qp bw vS ss n) := by
  have HS := hide h
  have HH := hide hh
  have hfew := h.few
  clear h hh
  go_enter Tryz.func128, Tryz.ntmps128
  go_wp2_with fail
  go_loopw [7] (fun v wr => ∃ (m : Nat) (L : List Src), m ≤ n ∧ v = .int .i64 m ∧ Hid (DownI w base qp bw vS ss n wr L m)) (fun v _ => n - (intOf v).toNat)
  case atStart => exact ⟨0, ss, Nat.zero_le _, rfl, hide ⟨unhide HS, List.Perm.refl _, unhide HH, rfl, Moved.refl _ _⟩⟩
  case round =>
    obtain ⟨m, L, hm, rfl, HI⟩ := hrel
    have hlen : L.length = ss.length := (unhide HI).perm.length_eq
    by_cases h1 : n ≤ 2 * m + 1
    · have h1i : (n : Int) ≤ 2 * (m : Int) + 1 := by omega
      go_wp2_with fail
      go_ret
      exact (unhide HI).fin (fun i h0 hi hm => by omega)
    · have h1i : ¬ (n : Int) ≤ 2 * (m : Int) + 1 := by omega
      have h1j : ¬ 2 * (m : Int) + 1 < 0 := by omega
      have hml : m < L.length := by omega
      have hjl : 2 * m + 1 < L.length := by omega
      have C1 := hide (show 2 * (m : Int) + 1 = ((2 * m + 1 : Nat) : Int) by omega)
      have C2 := hide (show 2 * (m : Int) + 1 + 1 = ((2 * m + 2 : Nat) : Int) by omega)
      have C3 := hide (show 2 * (m : Int) + 2 = ((2 * m + 2 : Nat) : Int) by omega)
      by_cases h2 : 2 * m + 2 < n
      · have h2i : 2 * (m : Int) + 1 + 1 < n := by omega
        have hkl : 2 * m + 2 < L.length := by omega
        have hl1 := qLess_any (2 * m + 2) (2 * m + 1) (unhide HI).q hkl hjl
        go_wp2_with fail
        rw [unhide C2, unhide C1]
        refine hl1.mono ?_
        rintro e w1 ⟨rfl, hb1⟩
        have HI1 := hide ((unhide HI).below hb1)
        clear hl1 hb1 HI
        cases hb : lessS bw L[2 * m + 2] L[2 * m + 1] with
        | true =>
          have HMIN := hide (show ∀ i, 0 < i → i < n → (i - 1) / 2 = m → lessS bw (L.getD i qd) (L.getD (2 * m + 2) qd) = false from by
            intro i h0 hi hm
            rcases child_cases h0 hm with rfl | rfl
            · rw [getD_q hjl, getD_q hkl]; exact (lessS_ord bw).asymm _ _ hb
            · exact (lessS_ord bw).irrefl _)
          have hl2 := qLess_any (2 * m + 2) m (unhide HI1).q hkl hml
          go_wp2_with fail
          first | rw [unhide C2] | rw [unhide C3]
          refine hl2.mono ?_
          rintro e w2 ⟨rfl, hb2⟩
          have HI2 := hide ((unhide HI1).below hb2)
          clear hl2 hb2 HI1
          cases hb2 : lessS bw L[2 * m + 2] L[m] with
          | false =>
            have HB := hide hb2
            go_wp2_with fail
            go_ret
            refine (unhide HI2).fin (fun i h0 hi hm => ?_)
            refine (lessS_ord bw).trans _ _ _ (unhide HMIN i h0 hi hm) ?_
            rw [getD_q hkl, getD_q hml]
            exact unhide HB
          | true =>
            have HB := hide hb2
            have hsw := qSwap_any m (2 * m + 2) (unhide HI2).q hml hkl
            go_wp2_with fail
            first | rw [unhide C2] | rw [unhide C3]
            refine hsw.mono ?_
            rintro e w3 ⟨rfl, hq3, hm3⟩
            have HI3 := hide ((unhide HI2).next (by omega) (show 2 * m + 2 < n by omega) (by omega) (by omega) (by rw [getD_q hkl, getD_q hml]; exact unhide HB) (unhide HMIN) hq3 hm3)
            clear hsw hq3 hm3 HI2
            go_wp2_with fail
            go_roundw
            case rel => exact ⟨2 * m + 2, swapL qd L m (2 * m + 2), by omega, by go_num, HI3⟩
            case measure => simp [intOf]; omega
        | false =>
          have HMIN := hide (show ∀ i, 0 < i → i < n → (i - 1) / 2 = m → lessS bw (L.getD i qd) (L.getD (2 * m + 1) qd) = false from by
            intro i h0 hi hm
            rcases child_cases h0 hm with rfl | rfl
            · exact (lessS_ord bw).irrefl _
            · rw [getD_q hjl, getD_q hkl]; exact hb)
          have hl2 := qLess_any (2 * m + 1) m (unhide HI1).q hjl hml
          go_wp2_with fail
          rw [unhide C1]
          refine hl2.mono ?_
          rintro e w2 ⟨rfl, hb2⟩
          have HI2 := hide ((unhide HI1).below hb2)
          clear hl2 hb2 HI1
          cases hb2 : lessS bw L[2 * m + 1] L[m] with
          | false =>
            have HB := hide hb2
            go_wp2_with fail
            go_ret
            refine (unhide HI2).fin (fun i h0 hi hm => ?_)
            refine (lessS_ord bw).trans _ _ _ (unhide HMIN i h0 hi hm) ?_
            rw [getD_q hjl, getD_q hml]
            exact unhide HB
          | true =>
            have HB := hide hb2
            have hsw := qSwap_any m (2 * m + 1) (unhide HI2).q hml hjl
            go_wp2_with fail
            rw [unhide C1]
            refine hsw.mono ?_
            rintro e w3 ⟨rfl, hq3, hm3⟩
            have HI3 := hide ((unhide HI2).next (by omega) (show 2 * m + 1 < n by omega) (by omega) (by omega) (by rw [getD_q hjl, getD_q hml]; exact unhide HB) (unhide HMIN) hq3 hm3)
            clear hsw hq3 hm3 HI2
            go_wp2_with fail
            go_roundw
            case rel => exact ⟨2 * m + 1, swapL qd L m (2 * m + 1), by omega, by go_num, HI3⟩
            case measure => simp [intOf]; omega
      · have h2i : ¬ 2 * (m : Int) + 1 + 1 < n := by omega
        have HI1 := HI
        clear HI
        generalize wr = w1 at *
        have HMIN := hide (show ∀ i, 0 < i → i < n → (i - 1) / 2 = m → lessS bw (L.getD i qd) (L.getD (2 * m + 1) qd) = false from by
          intro i h0 hi hm
          rcases child_cases h0 hm with rfl | rfl
          · exact (lessS_ord bw).irrefl _
          · omega)
        have hl2 := qLess_any (2 * m + 1) m (unhide HI1).q hjl hml
        go_wp2_with fail
        rw [unhide C1]
        refine hl2.mono ?_
        rintro e w2 ⟨rfl, hb2⟩
        have HI2 := hide ((unhide HI1).below hb2)
        clear hl2 hb2 HI1
        cases hb2 : lessS bw L[2 * m + 1] L[m] with
        | false =>
          have HB := hide hb2
          go_wp2_with fail
          go_ret
          refine (unhide HI2).fin (fun i h0 hi hm => ?_)
          refine (lessS_ord bw).trans _ _ _ (unhide HMIN i h0 hi hm) ?_
          rw [getD_q hjl, getD_q hml]
          exact unhide HB
        | true =>
          have HB := hide hb2
          have hsw := qSwap_any m (2 * m + 1) (unhide HI2).q hml hjl
          go_wp2_with fail
          rw [unhide C1]
          refine hsw.mono ?_
          rintro e w3 ⟨rfl, hq3, hm3⟩
          have HI3 := hide ((unhide HI2).next (by omega) (show 2 * m + 1 < n by omega) (by omega) (by omega) (by rw [getD_q hjl, getD_q hml]; exact unhide HB) (unhide HMIN) hq3 hm3)
          clear hsw hq3 hm3 HI2
          go_wp2_with fail
          go_roundw
          case rel => exact ⟨2 * m + 1, swapL qd L m (2 * m + 1), by omega, by go_num, HI3⟩
          case measure => simp [intOf]; omega

end Go.Proofs.YtbljamcdaoofbaaGreatDoor

/- The queue's Push and Pop. -/
namespace Go.Proofs.YtbljamcdaoofbaaGreatDoor
open Go.RowKit

theorem QAt.own_base {w : World} {base qp : Nat} {bw : Bool} {vS : Value} {ss : List Src} (h : QAt w base qp bw vS ss) {g : Nat} (hg : vS.ownBlock = some g) : base ≤ g := by
  obtain ⟨ao, c, rfl, -, -, -, hao, -, -⟩ := owns_form h.row
  cases ao with
  | none => cases hg
  | some a =>
    cases hg
    exact (hao a rfl).2.2.1
theorem QAt.belowM {w w' : World} {base qp : Nat} {bw : Bool} {vS : Value} {ss : List Src} (h : QAt w base qp bw vS ss) (hm : Moved (qF qp vS) w w') : Below base w w' :=
  ⟨hm.os, hm.tape, hm.output, hm.size, fun k hk => hm.block k (Nat.lt_of_lt_of_le hk h.base_le) (by
    rintro (rfl | e)
    · have := h.bqp; omega
    · have := h.own_base e; omega)⟩
theorem assertS (v : Value) (w : World) : (Instr.typeAssert (.iface 105 v) 20 105 false).run Tryz.prog w = .ok v w := by kernel_rfl
theorem srcInfo : (Tryz.prog.info? 105).map (fun i => (i.zero, i.size, i.bytes)) = some (some (.agg #[.string ByteArray.empty, .slice none 0 0]), 2, 40) := by kernel_rfl

theorem QAt.app {w w2 : World} {base qp : Nat} {bw : Bool} {vS v' : Value} {ss : List Src} {o : Obj} {s : Src} (h : QAt w base qp bw vS ss) (hs : LinesAt w base s) (hf : s.lines ≠ []) (h6 : ss.length < 6)
    (hg : (w.alloc o).grownBy w2 vS.ownBlock) (ho : w2.ownsRow base 105 2 v' (ss.length + 1) (ss.flatMap cellsQ ++ cellsQ s)) :
    QAt (w2.setCell ⟨qp, 0, none⟩ v') base qp bw v' (ss ++ [s]) ∧ w2.cell? ⟨qp, 0, none⟩ = some vS ∧ w2.frozen? ⟨qp, 0, none⟩ = false ∧ Moved (qF qp vS) w (w2.setCell ⟨qp, 0, none⟩ v') := by
  have hpl := (Array.getElem?_eq_some_iff.1 h.block).1
  have hm : Moved (qF qp vS) w w2 := ((Moved.refl _ w).alloc o).grown hg (fun k hk => .inl (.inr hk))
  have hp2 : w2.heap[qp]? = some (.cells #[vS, .bool bw] 123 (0, 0)) := by
    rw [hg.block qp (by simp; omega) (fun e => ?_), Go.RowKit.Below.heap_alloc w o qp hpl, h.block]
    obtain ⟨_, cur, hc⟩ := ownsRow_type h.row e.symm
    exact ne_of_type hc h.block (by decide) rfl
  obtain ⟨c0, c1, hf0⟩ := cell_of_block2 hp2
  have hmf : Moved (qF qp vS) w (w2.setCell ⟨qp, 0, none⟩ v') := hm.setCell (.inl (.inl rfl)) _
  have hbl := h.belowM hmf
  refine ⟨⟨block2_set0 hp2 v', ?_, ?_, ?_, h.bqp, by simp; omega⟩, c0, hf0 0, hmf⟩
  · simp only [List.length_append, List.length_singleton, List.flatMap_append, List.flatMap_cons, List.flatMap_nil, List.append_nil]
    refine ownsRow_same ho fun g hgo => Go.RowKit.Below.heap_setCell _ _ _ _ ?_
    obtain ⟨_, cur, hc⟩ := ownsRow_type ho hgo
    exact ne_of_type hc hp2 (by decide)
  · intro x hx
    rcases List.mem_append.1 hx with hx | hx
    · exact (h.lines x hx).below hbl
    · rw [List.mem_singleton.1 hx]; exact hs.below hbl
  · intro x hx
    rcases List.mem_append.1 hx with hx | hx
    · exact h.full x hx
    · rw [List.mem_singleton.1 hx]; exact hf

theorem cellsQ_one (s : Src) (h : ∃ a n c, s.vl = .slice a n c) : ∀ u ∈ cellsQ s, u.oneCell' = true := by
  obtain ⟨a, n, c, h⟩ := h
  intro u hu
  simp [cellsQ] at hu
  rcases hu with rfl | rfl
  · rfl
  · rw [h]; rfl

set_option maxRecDepth 10000 in
set_option maxHeartbeats 4000000 in
theorem qPush_any {w : World} {base qp : Nat} {bw : Bool} {vS : Value} {ss : List Src} (s : Src) (h : QAt w base qp bw vS ss) (hs : LinesAt w base s) (hf : s.lines ≠ []) (h6 : ss.length < 6) :
    Calls Tryz.prog 231 #[.pointer (some ⟨qp, 0, none⟩), .iface 105 (.agg #[SV s.lab, s.vl])] w fun e w' => e = .returned (.tuple #[]) ∧ ∃ v', QAt w' base qp bw v' (ss ++ [s]) ∧ (∀ g, v'.ownBlock = some g → vS.ownBlock = some g ∨ w.heap.size ≤ g) ∧ Moved (qF qp vS) w w' := by
  obtain ⟨i0, hi0, hz0, hs0, hb0⟩ := info_parts srcInfo
  have h0 : QAt w base qp bw vS ss := h
  have hs1 : LinesAt w base s := hs
  obtain ⟨c0, c1, fz⟩ := cell_of_block2 h.block
  have hqp := (Array.getElem?_eq_some_iff.1 h.block).1
  obtain ⟨ao, cap, hv, -, -, -, -, -, -⟩ := owns_form h.row
  obtain ⟨ga, oa, ka, va, -⟩ := id hs
  have hone := cellsQ_one s ⟨_, _, _, va⟩
  have hrow := h0.row
  rw [hv] at c0 hrow
  have HV := hide hv
  have H0 := hide h0
  have HS := hide hs1
  have HF := hide hf
  have HC := hide (show cellsQ s = [SV s.lab, .slice (some ⟨ga, oa, none⟩) s.lines.length ka] by rw [cellsQ, va])
  rw [va]
  have hbase := h.base_le
  clear h h0 hs hs1 hf hv fz c1
  go_enter Tryz.func231, Tryz.ntmps231
  have HTA := assertS
  go_upto_region 0 with fail
  go_region_law
    (refine step_append_at rfl (.tmp 8) (.tmp 11) 86 rfl base 105 i0 (.agg #[.string ByteArray.empty, .slice none 0 0]) 2 40 Tryz.underlying86 hi0 hz0 hs0 hb0 rfl (by decide) (.slice ao ss.length cap) ss.length (ss.flatMap cellsQ) (by simp [Act.eval]) (show World.ownsRow (World.drew _) _ _ _ _ _ _ from hrow.alloc _) (some ⟨w.heap.size, 0, none⟩) 1 1 (cellsQ s) (by simp [Act.eval]) rfl (by intro e; cases e) (by rw [unhide HC]; exact cells_new w _ _) hone (by unfold maxLen; omega) (by omega) (by first | (simp; omega) | omega | exact Nat.le_trans hbase (by simp)) ?_; intro v4 w4 hown4 hgrow4 hwh4; obtain ⟨a4, cap4, rfl, -, -, -, -, -, -⟩ := owns_form hown4; rw [← unhide HV] at hgrow4 hwh4; obtain ⟨hfin, e2, ef, hmf⟩ := (unhide H0).app (unhide HS) (unhide HF) h6 ⟨hgrow4.os, hgrow4.tape, hgrow4.output, hgrow4.size, hgrow4.block⟩ hown4; (try simp only at e2 ef); clear hgrow4 hown4)
  all_goals
    go_end0
    refine ⟨rfl, _, hfin, ?_, hmf⟩
    intro g hg
    rcases hwh4 with hw | hw
    · exact .inl (hw ▸ hg)
    · right
      rw [hg] at hw
      simp at hw
      omega

end Go.Proofs.YtbljamcdaoofbaaGreatDoor

/- The queue's Pop. -/
namespace Go.Proofs.YtbljamcdaoofbaaGreatDoor
open Go.RowKit

theorem row_init {w : World} {base g n cap size : Nat} {e : TypeId} {xs ys : List Value} (h : w.ownsRow base e size (.slice (some ⟨g, 0, none⟩) n cap) n (xs ++ ys)) (m : Nat) (hm : m ≤ n) (hl : xs.length = m * size) :
    w.ownsRow base e size (.slice (some ⟨g, 0, none⟩) m cap) m xs := by
  refine ⟨hl, .inr ?_⟩
  rcases h.2 with ⟨h', -⟩ | ⟨g', cap', cur, hv, hb, hg, hnc, hcm, hcs, ht⟩
  · simp at h'
  · simp only [Value.slice.injEq, Option.some.injEq, Addr.mk.injEq] at hv
    obtain ⟨⟨rfl, -, -⟩, -, rfl⟩ := hv
    refine ⟨g, cap, cur, rfl, hb, hg, Nat.le_trans hm hnc, hcm, hcs, ?_⟩
    have : (cur.toList.take (n * size)).take (m * size) = (xs ++ ys).take (m * size) := by rw [ht]
    rw [List.take_take, Nat.min_eq_left (Nat.mul_le_mul_right _ hm)] at this
    rw [this, ← hl, List.take_left]

theorem QAt.pop {w : World} {base qp g n cap : Nat} {bw : Bool} {ss : List Src} {s : Src} (h : QAt w base qp bw (.slice (some ⟨g, 0, none⟩) n cap) (ss ++ [s])) (o : Obj) :
    QAt ((w.setCell ⟨qp, 0, none⟩ (.slice (some ⟨g, 0, none⟩) ss.length cap)).alloc o) base qp bw (.slice (some ⟨g, 0, none⟩) ss.length cap) ss ∧ Moved (qF qp (.slice (some ⟨g, 0, none⟩) n cap)) w ((w.setCell ⟨qp, 0, none⟩ (.slice (some ⟨g, 0, none⟩) ss.length cap)).alloc o) := by
  have hne := h.ne
  have hpl := (Array.getElem?_eq_some_iff.1 h.block).1
  have hn : n = ss.length + 1 := by
    rcases h.row.2 with ⟨h', _⟩ | ⟨g', cap', cur', h', _⟩
    · simp at h'
    · simp at h'; exact h'.2.1
  subst hn
  have hmv : Moved (qF qp (.slice (some ⟨g, 0, none⟩) (ss.length + 1) cap)) w (w.setCell ⟨qp, 0, none⟩ (.slice (some ⟨g, 0, none⟩) ss.length cap)) := (Moved.refl _ w).setCell (.inl (.inl rfl)) _
  have hgl := (ownsRow_type h.row (g := g) rfl).1
  have hbl := h.belowM (hmv.alloc o)
  refine ⟨⟨?_, ?_, ?_, ?_, h.bqp, ?_⟩, hmv.alloc o⟩
  · rw [Go.RowKit.Below.heap_alloc _ o qp (by simpa [World.setCell] using hpl)]
    exact block2_set0 h.block _
  · have h1 := h.row
    rw [List.flatMap_append, List.length_append, List.length_singleton] at h1
    have h2 := row_init h1 ss.length (by omega) (cellsQ_len ss)
    refine ownsRow_same h2 fun b hb => ?_
    have hbg : b = g := by simpa [Value.ownBlock] using hb.symm
    subst hbg
    rw [Go.RowKit.Below.heap_alloc _ o b (by simpa [World.setCell] using hgl), Go.RowKit.Below.heap_setCell _ _ _ _ (fun e => hne e.symm)]
  · exact fun x hx => (h.lines x (by simp [hx])).below hbl
  · exact fun x hx => h.full x (by simp [hx])
  · have := h.few
    simp at this
    omega

set_option maxRecDepth 10000 in
set_option maxHeartbeats 2000000 in
theorem qPop_any {w : World} {base qp : Nat} {bw : Bool} {vS : Value} {ss : List Src} {s : Src} (h : QAt w base qp bw vS (ss ++ [s])) :
    Calls Tryz.prog 230 #[.pointer (some ⟨qp, 0, none⟩)] w fun e w' => e = .returned (.iface 105 (.agg #[SV s.lab, s.vl])) ∧ ∃ v', QAt w' base qp bw v' ss ∧ v'.ownBlock = vS.ownBlock ∧ Moved (qF qp vS) w w' := by
  obtain ⟨c0, c1, fz⟩ := cell_of_block2 h.block
  have hqp := (Array.getElem?_eq_some_iff.1 h.block).1
  obtain ⟨g, cap, rfl, -, hgw, hnc, hcm, hcell, hfz⟩ := owns_open h.row (by simp)
  have hfew := h.few
  have hne := h.ne
  obtain ⟨ga, oa, ka, va, -⟩ := h.lines s (by simp)
  obtain ⟨a0, a1⟩ := cellsQ_at (ss ++ [s]) ss.length (by simp)
  have hgs : (ss ++ [s])[ss.length]'(by simp) = s := by simp
  rw [hgs] at a0 a1
  have m0 := (hcell (ss.length * 2) (by simp)).trans a0
  have m1 := (hcell (ss.length * 2 + 1) (by simp; omega)).trans a1
  have f0 := fz 0
  have HP := hide (fun o => h.pop o)
  have hlen : (ss ++ [s]).length = ss.length + 1 := by simp
  rw [hlen] at hfew hnc c0 HP
  rw [va] at m1
  rw [va]
  clear h hcell hfz fz a0 a1 hgs c1
  rw [hlen]
  clear hlen
  go_enter Tryz.func230, Tryz.ntmps230
  go_wp2
  go_ret
  refine ⟨rfl, _, (unhide HP _).1, rfl, (unhide HP _).2⟩

end Go.Proofs.YtbljamcdaoofbaaGreatDoor

/- container/heap's Push and Pop, over the queue; the queue's add. -/
namespace Go.Proofs.YtbljamcdaoofbaaGreatDoor
open Go.RowKit

/-- What the queue's calls touch: its own block, its row's, and new ones. -/
structure QM (w w' : World) (qp : Nat) (vS v' : Value) : Prop where
  moved : Moved (qF qp vS) w w'
  own : ∀ g, v'.ownBlock = some g → vS.ownBlock = some g ∨ w.heap.size ≤ g

theorem QM.trans {a b c : World} {qp : Nat} {v v1 v2 : Value} (h : QM a b qp v v1) (k : QM b c qp v1 v2) : QM a c qp v v2 := by
  refine ⟨h.moved.trans k.moved ?_, fun g hg => ?_⟩
  · rintro i (rfl | e)
    · exact .inl (.inl rfl)
    · rcases h.own i e with e | e
      · exact .inl (.inr e)
      · exact .inr e
  · rcases k.own g hg with e | e
    · exact h.own g e
    · exact .inr (Nat.le_trans h.moved.size e)
theorem QM.same {a b : World} {qp : Nat} {v : Value} (h : Moved (qF qp v) a b) : QM a b qp v v := ⟨h, fun _ hg => .inl hg⟩
theorem QM.refl (a : World) (qp : Nat) (v : Value) : QM a a qp v v := QM.same (Moved.refl _ _)
theorem QM.ofB {a b : World} {qp : Nat} {v : Value} (h : Below a.heap.size a b) : QM a b qp v v := QM.same (Moved.of_below h)

def QOk (w : World) (base qp : Nat) (bw : Bool) (v : Value) (ss : List Src) : Prop := QAt w base qp bw v ss ∧ HeapOk (lessS bw) qd ss ss.length

theorem QOk.below {w w' : World} {base qp : Nat} {bw : Bool} {v : Value} {ss : List Src} (h : QOk w base qp bw v ss) (hb : Below w.heap.size w w') : QOk w' base qp bw v ss := ⟨h.1.below hb, h.2⟩

set_option maxRecDepth 10000 in
set_option maxHeartbeats 2000000 in
theorem hPush_any {w : World} {base qp : Nat} {bw : Bool} {vS : Value} {ss : List Src} (s : Src) (h : QOk w base qp bw vS ss) (hs : LinesAt w base s) (hf : s.lines ≠ []) (h6 : ss.length < 6) :
    Calls Tryz.prog 99 #[.iface 121 (.pointer (some ⟨qp, 0, none⟩)), .iface 105 (.agg #[SV s.lab, s.vl])] w fun e w' => e = .returned (.tuple #[]) ∧ ∃ v' ss', QOk w' base qp bw v' ss' ∧ ss'.Perm (s :: ss) ∧ QM w w' qp vS v' := by
  have hp := qPush_any s h.1 hs hf h6
  have HH := hide h.2
  clear h hs hf
  go_enter Tryz.func99, Tryz.ntmps99
  go_wp2_with fail
  refine hp.mono ?_
  rintro e w1 ⟨rfl, v1, hq1, ho1, hm1⟩
  clear hp
  have hl := qLen_any hq1
  have hu := hUp_any ss.length hq1 (by simp) (by have := (unhide HH).push s; simpa using this)
  have HM1 := hide (QM.mk hm1 ho1)
  clear hq1 ho1 hm1
  go_wp2_with fail
  refine hl.mono ?_
  rintro e w2 ⟨rfl, rfl⟩
  clear hl
  have HL := hide (show (((ss ++ [s]).length : Nat) : Int) - 1 = (ss.length : Int) by simp)
  go_wp2_with fail
  first | rw [unhide HL] | skip
  refine hu.mono ?_
  rintro e w3 ⟨rfl, ss', hq3, hp3, hh3, hm3⟩
  have HF := hide (show ∃ v' ss', QOk w3 base qp bw v' ss' ∧ ss'.Perm (s :: ss) ∧ QM w w3 qp vS v' from ⟨v1, ss', ⟨hq3, hh3⟩, hp3.trans (List.perm_append_singleton _ _), (unhide HM1).trans (QM.same hm3)⟩)
  clear hu hq3 hp3 hh3 hm3
  go_wp2_with fail
  go_end0
  exact ⟨rfl, unhide HF⟩

theorem drop_last {l : List Src} {n : Nat} {x : Src} (h : l.drop n = [x]) : l = l.take n ++ [x] := by
  rw [← h, List.take_append_drop]

theorem swap_last {ss : List Src} (h : 0 < ss.length) : (swapL qd ss 0 (ss.length - 1)).drop (ss.length - 1) = [ss[0]] := by
  have hl : (swapL qd ss 0 (ss.length - 1)).length = ss.length := by simp [swapL]
  have hg := swapL_get (d := qd) (l := ss) (i := 0) (j := ss.length - 1) h (by omega) (ss.length - 1)
  rw [if_pos rfl] at hg
  rw [getD_q h] at hg
  rw [List.drop_eq_getElem_cons (by omega), List.drop_of_length_le (by omega)]
  congr 1
  rw [← hg, getD_q (by omega)]

set_option maxRecDepth 10000 in
set_option maxHeartbeats 2000000 in
theorem hPop_any {w : World} {base qp : Nat} {bw : Bool} {vS : Value} {ss : List Src} (h : QOk w base qp bw vS ss) (h0 : 0 < ss.length) :
    Calls Tryz.prog 100 #[.iface 121 (.pointer (some ⟨qp, 0, none⟩))] w fun e w' => ∃ s v' ss', e = .returned (.iface 105 (.agg #[SV s.lab, s.vl])) ∧ QOk w' base qp bw v' ss' ∧ (s :: ss').Perm ss ∧ (∀ x ∈ ss, lessS bw x s = false) ∧ LinesAt w' base s ∧ QM w w' qp vS v' := by
  have hl := qLen_any h.1
  have hsw := qSwap_any 0 (ss.length - 1) h.1 h0 (by omega)
  have HH := hide h
  have hfew := h.1.few
  clear h
  go_enter Tryz.func100, Tryz.ntmps100
  go_wp2_with fail
  refine hl.mono ?_
  rintro e w0 ⟨rfl, rfl⟩
  clear hl
  have HL := hide (show (ss.length : Int) - 1 = ((ss.length - 1 : Nat) : Int) by omega)
  go_wp2_with fail
  rw [unhide HL]
  refine hsw.mono ?_
  rintro e w1 ⟨rfl, hq1, hm1⟩
  clear hsw
  have hdn := hDown_any (n := ss.length - 1) hq1 (by simp [swapL]) (by have := (unhide HH).2.pop h0; exact this)
  have HQ1 := hide hq1
  have HM1 := hide (QM.same hm1)
  clear hq1 hm1
  go_wp2_with fail
  first | rw [unhide HL] | skip
  refine hdn.mono ?_
  rintro e w2 ⟨⟨b, rfl⟩, L, hq2, hp2, hh2, hk2, hm2⟩
  clear hdn
  have hlen : L.length = ss.length := by rw [hp2.length_eq]; simp [swapL]
  have hLe : L = L.take (ss.length - 1) ++ [ss[0]] := drop_last (hk2.trans (swap_last h0))
  have hqq := hq2
  rw [hLe] at hqq
  have hpo := qPop_any hqq
  have HF := hide (show (∀ x ∈ ss, lessS bw x ss[0] = false) ∧ (ss[0] :: L.take (ss.length - 1)).Perm ss ∧ HeapOk (lessS bw) qd (L.take (ss.length - 1)) (L.take (ss.length - 1)).length from by
    refine ⟨fun x hx => ?_, ?_, ?_⟩
    · obtain ⟨i, hi, rfl⟩ := List.getElem_of_mem hx
      have := (unhide HH).2.root (lessS_ord bw) i hi
      rwa [getD_q hi, getD_q h0] at this
    · have h1 : (ss[0] :: L.take (ss.length - 1)).Perm L := by
        conv => rhs; rw [hLe]
        exact (List.perm_append_singleton _ _).symm
      exact (h1.trans hp2).trans (swapL_q h0 (by omega))
    · have h1 : (L.take (ss.length - 1)).length = ss.length - 1 := by simp; omega
      rw [h1]
      exact hh2.take (by omega))
  have hls := hq2.lines ss[0] (by rw [hLe]; simp)
  have HLS := hide hls
  have HB2 := hide (fun (w3 : World) (hm : Moved (qF qp vS) w2 w3) => hq2.belowM hm)
  have HM2 := hide ((unhide HM1).trans (QM.same hm2))
  clear hq2 hp2 hh2 hk2 hm2 hLe hqq hls HM1 HQ1
  go_wp2_with fail
  refine hpo.mono ?_
  rintro e w3 ⟨rfl, v', hq3, ho3, hm3⟩
  have HG := hide (show ∃ s v' ss', (Ending.returned (.iface 105 (.agg #[SV ss[0].lab, ss[0].vl]))) = .returned (.iface 105 (.agg #[SV s.lab, s.vl])) ∧ QOk w3 base qp bw v' ss' ∧ (s :: ss').Perm ss ∧ (∀ x ∈ ss, lessS bw x s = false) ∧ LinesAt w3 base s ∧ QM w0 w3 qp vS v' from
    ⟨ss[0], v', _, rfl, ⟨hq3, (unhide HF).2.2⟩, (unhide HF).2.1, (unhide HF).1, (unhide HLS).below (unhide HB2 _ hm3), (unhide HM2).trans ⟨hm3, fun g hg => .inl (ho3 ▸ hg)⟩⟩)
  clear hpo hq3 ho3 hm3
  go_wp2_with fail
  go_ret
  exact unhide HG

/-- a source that may have no lines -/
def OkSrc (w : World) (base : Nat) (s : Src) : Prop := (∃ ao cap, s.vl = .slice ao s.lines.length cap) ∧ (s.lines ≠ [] → LinesAt w base s)

theorem OkSrc.below {w w' : World} {base : Nat} {s : Src} (h : OkSrc w base s) (hb : Below base w w') : OkSrc w' base s := ⟨h.1, fun hn => (h.2 hn).below hb⟩

def addL (s : Src) (ss : List Src) : List Src := if s.lines.isEmpty = true then ss else s :: ss

set_option maxRecDepth 10000 in
set_option maxHeartbeats 2000000 in
theorem qAdd_any {w : World} {base qp : Nat} {bw : Bool} {vS : Value} {ss : List Src} (s : Src) (h : QOk w base qp bw vS ss) (hs : OkSrc w base s) (h6 : ss.length < 6) :
    Calls Tryz.prog 64 #[.pointer (some ⟨qp, 0, none⟩), .agg #[SV s.lab, s.vl]] w fun e w' => e = .returned (.tuple #[]) ∧ ∃ v' ss', QOk w' base qp bw v' ss' ∧ ss'.Perm (addL s ss) ∧ QM w w' qp vS v' := by
  obtain ⟨⟨ao, cap, hv⟩, hls⟩ := hs
  have hb : Below w.heap.size w (w.alloc (.cells #[SV s.lab, s.vl] 105)) := (Below.refl _ w).alloc (Nat.le_refl _) _
  have HB := hide hb
  have HQ := hide h
  have hbase := h.1.base_le
  by_cases hn : s.lines = []
  · have h0 : s.lines.length = 0 := by rw [hn]; rfl
    rw [h0] at hv
    have HE := hide (show addL s ss = ss by simp [addL, hn])
    rw [hv] at HB hb
    rw [hv]
    clear h hls
    go_enter Tryz.func64, Tryz.ntmps64
    go_wp2
    go_end0
    refine ⟨rfl, vS, ss, (unhide HQ).below (unhide HB), ?_, QM.ofB (unhide HB)⟩
    rw [unhide HE]
  · have hl0 : (0 : Int) < s.lines.length := by have := List.length_pos_iff.2 hn; omega
    have HE := hide (show addL s ss = s :: ss by
      have : s.lines.isEmpty = false := by cases hs : s.lines with | nil => exact absurd hs hn | cons a b => rfl
      simp [addL, this])
    have hpu := hPush_any s (h.below hb) ((hls hn).below (hb.mono hbase)) hn h6
    rw [hv] at HB hb hpu
    rw [hv]
    clear h hls
    go_enter Tryz.func64, Tryz.ntmps64
    go_wp2_with fail
    refine hpu.mono ?_
    rintro e w1 ⟨rfl, v', ss', h1, h2, h3⟩
    have HF := hide (show ∃ v' ss', QOk w1 base qp bw v' ss' ∧ ss'.Perm (addL s ss) ∧ QM w w1 qp vS v' from ⟨v', ss', h1, by rw [unhide HE]; exact h2, (QM.ofB (unhide HB)).trans h3⟩)
    clear hpu h1 h2 h3
    go_wp2_with fail
    go_end0
    exact ⟨rfl, unhide HF⟩

end Go.Proofs.YtbljamcdaoofbaaGreatDoor

/- The queue's take: the first of all next rows. -/
namespace Go.Proofs.YtbljamcdaoofbaaGreatDoor
open Go.RowKit

theorem QAt.setOther {w : World} {base qp : Nat} {bw : Bool} {vS : Value} {ss : List Src} (h : QAt w base qp bw vS ss) (p : Addr) (u : Value) (h1 : p.block ≠ qp) (h2 : vS.ownBlock ≠ some p.block) (h3 : base ≤ p.block) : QAt (w.setCell p u) base qp bw vS ss := by
  refine ⟨?_, ?_, fun s hs => (h.lines s hs).set p u h3, h.full, h.bqp, h.few⟩
  · rw [Go.RowKit.Below.heap_setCell _ _ _ _ (fun e => h1 e.symm)]; exact h.block
  · exact ownsRow_same h.row fun g hg => Go.RowKit.Below.heap_setCell _ _ _ _ (fun e => h2 (e ▸ hg))

theorem block3_set {w : World} {p : Nat} {v0 v1 v2 : Value} {t : TypeId} (h : w.heap[p]? = some (.cells #[v0, v1, v2] t (0, 0))) (a b c : Value) :
    (((w.setCell ⟨p, 0, none⟩ a).setCell ⟨p, 1, none⟩ b).setCell ⟨p, 2, none⟩ c).heap[p]? = some (.cells #[a, b, c] t (0, 0)) := by
  simp [World.setCell, Array.getElem?_modify, h]

theorem QM.keep {w w' : World} {qp b : Nat} {v v' : Value} (h : QM w w' qp v v') (hb : b < w.heap.size) (h1 : b ≠ qp) (h2 : v.ownBlock ≠ some b) : w'.heap[b]? = w.heap[b]? :=
  h.moved.block b hb (by rintro (e | e); exact h1 e; exact h2 e)

def rowZ : Obj := .cells #[.string ⟨#[]⟩, .int .i64 0, .string ⟨#[]⟩] 38

/-- what take leaves -/
def TakeP (w : World) (base qp : Nat) (bw : Bool) (vS : Value) (T : List Rw) (e : Ending) (w' : World) : Prop :=
  ∃ r T' v' ss', T = r :: T' ∧ e = .returned (.agg #[SV r.1, .int .i64 r.2.1, SV r.2.2]) ∧ QOk w' base qp bw v' ss' ∧ MInv bw T' ss' ∧ QM w w' qp vS v'

set_option maxRecDepth 10000 in
set_option maxHeartbeats 400000 in
theorem qTake_any {w : World} {base qp : Nat} {bw : Bool} {vS : Value} {ss : List Src} {T : List Rw} (h : QOk w base qp bw vS ss) (h0 : 0 < ss.length) (hT : MInv bw T ss) :
    Calls Tryz.prog 66 #[.pointer (some ⟨qp, 0, none⟩)] w (TakeP w base qp bw vS T) := by
  have hbA : Below w.heap.size w (w.alloc (.cells #[.string ⟨#[]⟩, .int .i64 0, .string ⟨#[]⟩] 38)) := (Below.refl _ w).alloc (Nat.le_refl _) _
  have hpo := hPop_any (h.below hbA) h0
  have hqp := (Array.getElem?_eq_some_iff.1 h.1.block).1
  have hbase := h.1.base_le
  have hos : ∀ g, vS.ownBlock = some g → g < w.heap.size := fun g hg => (ownsRow_type h.1.row hg).1
  have hfull := h.1.full
  have hfew := h.1.few
  have HBA := hide hbA
  have HFU := hide hfull
  have HOS := hide hos
  have HT := hide hT
  have hz := heap_alloc_new w (.cells #[.string ⟨#[]⟩, .int .i64 0, .string ⟨#[]⟩] 38)
  clear h hT hfull hos hbA
  go_enter Tryz.func66, Tryz.ntmps66
  go_wp2_with fail
  refine hpo.mono ?_
  rintro e w1 ⟨s, v1, ss1, rfl, hq1, hp1, hmin, hls1, hm1⟩
  clear hpo
  have HTA := assertS
  have hsz1 : w.heap.size + 1 ≤ w1.heap.size := by have := hm1.moved.size; simpa using this
  have z1 := (hm1.keep (b := w.heap.size) (by simp) (by omega) (by intro e; have := unhide HOS _ e; omega)).trans hz
  have hne : s.lines ≠ [] := unhide HFU s (hp1.mem_iff.1 (by simp))
  have hT1 : MInv bw T (s :: ss1) := (unhide HT).perm hp1
  have hfull1 : ∀ x ∈ s :: ss1, x.lines ≠ [] := fun x hx => unhide HFU x (hp1.mem_iff.1 hx)
  have hmin1 : ∀ x ∈ s :: ss1, lessS bw x s = false := fun x hx => hmin x (hp1.mem_iff.1 hx)
  have HST := hide (fun v => hT1.step hfull1 hmin1 v)
  have hl1 : ss1.length + 1 = ss.length := by have := hp1.length_eq; simpa using this
  have hos1 : ∀ g, v1.ownBlock = some g → g ≠ w.heap.size ∧ g < w1.heap.size := fun g hg => ⟨by
    rcases hm1.own g hg with e | e
    · have := unhide HOS g e; omega
    · simp at e; omega, (ownsRow_type hq1.1.row hg).1⟩
  have HOS1 := hide hos1
  have hqm1 : QM w w1 qp vS v1 := (QM.ofB (unhide HBA)).trans hm1
  have HQM1 := hide hqm1
  have hB1 : Below w1.heap.size w1 (w1.alloc (.cells #[SV s.lab, s.vl] 105)) := (Below.refl _ w1).alloc (Nat.le_refl _) _
  have hbase1 := hq1.1.base_le
  have hQ1 := hq1.below hB1
  have hL1 := hls1.below (hB1.mono hbase1)
  have hnx := qNext_any s hQ1.1.block hL1 hne hQ1.1.base_le
  obtain ⟨ga, oa, ka, va, -⟩ := id hls1
  have z1' := (hB1.block w.heap.size (by omega)).trans z1
  have hs1 := heap_alloc_new w1 (.cells #[SV s.lab, s.vl] 105)
  have HQ1 := hide hQ1
  have HL1 := hide hL1
  have HB1 := hide hB1
  have HVA := hide va
  have HZ1 := hide z1'
  have HS1 := hide hs1
  rw [va] at hnx HB1
  rw [va]
  clear hm1 z1 hT1 hfull1 hmin1 hmin hos1 hqm1 hB1 hQ1 hL1 z1' hs1 hq1 hls1 hz
  go_wp2_with fail
  refine hnx.mono ?_
  rintro e w2 ⟨rfl, hb2⟩
  clear hnx
  rw [va] at HQ1 HL1 HS1 HZ1
  have hW1 : w1.heap.size + 1 = (w1.alloc (.cells #[SV s.lab, .slice (some ⟨ga, oa, none⟩) s.lines.length ka] 105)).heap.size := by simp
  have HBW : Hid (Below w1.heap.size w1 (w1.alloc (.cells #[SV s.lab, .slice (some ⟨ga, oa, none⟩) s.lines.length ka] 105))) := HB1
  clear HB1
  change Below (w1.alloc (.cells #[SV s.lab, .slice (some ⟨ga, oa, none⟩) s.lines.length ka] 105)).heap.size (w1.alloc (.cells #[SV s.lab, .slice (some ⟨ga, oa, none⟩) s.lines.length ka] 105)) w2 at hb2
  generalize (w1.alloc (.cells #[SV s.lab, .slice (some ⟨ga, oa, none⟩) s.lines.length ka] 105)) = W1 at *
  have hsz2 := hb2.size
  have s2 := (hb2.block w1.heap.size (by omega)).trans (unhide HS1)
  have z2 := (hb2.block w.heap.size (by omega)).trans (unhide HZ1)
  have hQ2 := (unhide HQ1).below hb2
  have hL2 := (unhide HL1).below (hb2.mono (by omega))
  have hqm2 : QM w w2 qp vS v1 := (unhide HQM1).trans ((QM.ofB (unhide HBW)).trans (QM.ofB hb2))
  clear hb2 HQ1 HL1 HS1 HZ1 HBW HQM1
  generalize hr : nextLn bw s.lines = r at *
  have HR := hide hr
  clear hr
  have hB2 : Below w2.heap.size w2 (w2.alloc (.cells #[SV s.lab, .int .i64 r.1, SV r.2] 38)) := (Below.refl _ w2).alloc (Nat.le_refl _) _
  have hQ2' := hQ2.below hB2
  have hL2' := hL2.below (hB2.mono hQ2.1.base_le)
  have hbe := qBehind_any s hQ2'.1.block hL2' hne hQ2'.1.base_le
  rw [va] at hbe
  have HQ2 := hide hQ2'
  have r2 := heap_alloc_new w2 (.cells #[SV s.lab, .int .i64 r.1, SV r.2] 38)
  have z2' := (hB2.block w.heap.size (by omega)).trans z2
  have HR2 := hide r2
  have HZ2 := hide z2'
  have HQM2 := hide (hqm2.trans (QM.ofB hB2))
  obtain ⟨s20, s21, -⟩ := cell_of_block2 s2
  have hW2 : w2.heap.size + 1 = (w2.alloc (.cells #[SV s.lab, .int .i64 r.1, SV r.2] 38)).heap.size := by simp
  have HW2 := hide hW2
  have hs12 : w1.heap.size < w2.heap.size := by omega
  clear hQ2 hL2 hQ2' hL2' hB2 r2 z2' z2 s2 hqm2 hW2 HVA va
  go_wp2_with fail
  refine hbe.mono ?_
  rintro e w3 ⟨v, rfl, hl3, hb3⟩
  clear hbe
  have hW2 := unhide HW2
  change Below (w2.alloc (.cells #[SV s.lab, .int .i64 r.1, SV r.2] 38)).heap.size (w2.alloc (.cells #[SV s.lab, .int .i64 r.1, SV r.2] 38)) w3 at hb3
  generalize (w2.alloc (.cells #[SV s.lab, .int .i64 r.1, SV r.2] 38)) = W2 at *
  have hsz3 := hb3.size
  have hQ3 := (unhide HQ2).below hb3
  have r3 := (hb3.block w2.heap.size (by omega)).trans (unhide HR2)
  have z3 := (hb3.block w.heap.size (by omega)).trans (unhide HZ2)
  have hqm3 := (unhide HQM2).trans (QM.ofB hb3)
  obtain ⟨gx, ox, kx, vx, -⟩ := id hl3
  have hok : OkSrc w3 base ⟨s.lab, restLn bw s.lines, v⟩ := ⟨⟨_, _, vx⟩, fun _ => hl3⟩
  have had := qAdd_any ⟨s.lab, restLn bw s.lines, v⟩ hQ3 hok (by omega)
  simp only at had
  have HR3 := hide r3
  have HZ3 := hide z3
  have HQM3 := hide hqm3
  clear hb3 HQ2 HR2 HZ2 HQM2 r3 z3 hqm3 hQ3 hl3 hok vx s20 s21
  go_wp2_with fail
  refine had.mono ?_
  rintro e w4 ⟨rfl, v2, ss2, hq4, hp4, hm4⟩
  clear had
  have r4 := (hm4.keep (b := w2.heap.size) (by omega) (by omega) (by intro e; have := (unhide HOS1 _ e).2; omega)).trans (unhide HR3)
  have z4 := (hm4.keep (b := w.heap.size) (by omega) (by omega) (by intro e; exact (unhide HOS1 _ e).1 rfl)).trans (unhide HZ3)
  have hsz4 := hm4.moved.size
  obtain ⟨r40, r41, r42, -⟩ := cell_of_block3 r4
  obtain ⟨z40, z41, z42, z4f⟩ := cell_of_block3 z4
  have z4f0 := z4f 0
  have z4f1 := z4f 1
  have z4f2 := z4f 2
  have hne24 : w2.heap.size ≠ w.heap.size := by omega
  have hqm4 := (unhide HQM3).trans hm4
  have hos2 : v2.ownBlock ≠ some w.heap.size := by
    intro e
    rcases hm4.own _ e with e | e
    · exact (unhide HOS1 _ e).1 rfl
    · omega
  have HFIN := hide (show TakeP w base qp bw vS T (.returned (.agg #[SV s.lab, .int .i64 r.1, SV r.2])) (((w4.setCell ⟨w.heap.size, 0, none⟩ (SV s.lab)).setCell ⟨w.heap.size, 1, none⟩ (.int .i64 r.1)).setCell ⟨w.heap.size, 2, none⟩ (SV r.2)) from by
    obtain ⟨T', hT', hi1, hi2⟩ := unhide HST v
    refine ⟨_, T', v2, ss2, hT', rfl, ⟨?_, hq4.2⟩, ?_, ?_⟩
    · exact ((hq4.1.setOther _ _ (by simp; omega) hos2 (by simpa using hbase)).setOther _ _ (by simp; omega) hos2 (by simpa using hbase)).setOther _ _ (by simp; omega) hos2 (by simpa using hbase)
    · refine MInv.perm ?_ hp4
      unfold addL
      split
      · rename_i he
        exact hi2 (by simpa using he)
      · exact hi1
    · refine ⟨((hqm4.moved.setCell (.inr ?_) _).setCell (.inr ?_) _).setCell (.inr ?_) _, hqm4.own⟩ <;> simp)
  have HBL := hide (block3_set z4 (SV s.lab) (.int .i64 r.1) (SV r.2))
  clear r4 z4 z4f hqm4 hos2 hq4 hp4 hm4 HST HQM3 HR3 HZ3
  go_wp2_with fail
  refine bodyPost_ret (results_cell_row (p := 2) (ty := 38) rfl _ _ w.heap.size _ _ _ _ rfl (unhide HBL) Tryz.underlying38 rfl rowSize) rfl ?_
  exact unhide HFIN

end Go.Proofs.YtbljamcdaoofbaaGreatDoor
