/- Texts RSpan, RMeas, PMeas, joined. -/
import Derived.Test.YtbljamcdaoofbaaGreatDoorRParseToLabel
import Derived.Test.YtbljamcdaoofbaaGreatDoorPSpanOne
import Derived.Test.YtbljamcdaoofbaaGreatDoorRRowsOne
import Derived.Test.YtbljamcdaoofbaaGreatDoorPMarkToPRule
/- The reference's span. -/
namespace Go.Proofs.YtbljamcdaoofbaaGreatDoor
open Go.RowKit

/-- the number of a text, whatever its bytes are -/
def spanW (l : List UInt8) : Nat := l.foldl (fun n c => min (10 * n + (c.toNat + 208) % 256) 1000001) 0

theorem spanW_snoc (l : List UInt8) (k : Nat) (h : k < l.length) : spanW (l.take (k + 1)) = min (10 * spanW (l.take k) + (l[k].toNat + 208) % 256) 1000001 := by
  rw [List.take_succ_eq_append_getElem h, spanW, List.foldl_append]
  rfl
theorem spanW_le (l : List UInt8) : spanW l ≤ 1000001 := by
  cases h : l.length with
  | zero =>
    have : l = [] := List.eq_nil_of_length_eq_zero h
    subst this
    simp [spanW]
  | succ n =>
    have := spanW_snoc l n (by omega)
    rw [List.take_of_length_le (by omega)] at this
    omega
theorem spanW_digits (l : List UInt8) (hd : l.all isD = true) : spanW l = spanL l := by
  unfold spanW spanL
  suffices ∀ s, l.foldl (fun n c => min (10 * n + (c.toNat + 208) % 256) 1000001) s = l.foldl (fun n c => min (10 * n + (c.toNat - 48)) 1000001) s from this 0
  induction l with
  | nil => intro s; rfl
  | cons c r ih =>
    intro s
    rw [List.all_cons, Bool.and_eq_true] at hd
    have hc := hd.1
    simp only [isD, digitB, Bool.and_eq_true, decide_eq_true_eq] at hc
    rw [List.foldl_cons, List.foldl_cons, show (c.toNat + 208) % 256 = c.toNat - 48 by omega]
    exact ih hd.2 _

set_option maxRecDepth 10000 in
set_option maxHeartbeats 1000000 in
theorem rspan_any (l : List UInt8) (w : World) (hl : l.length ≤ 200) :
    Calls Tryz.prog 174 #[.string ⟨l.toArray⟩] w fun e w' => e = .returned (.int .i64 (spanW l)) ∧ w' = w := by
  go_enter Tryz.func174, Tryz.ntmps174
  go_wp2
  go_loop [3, 4] (fun n i => ∃ k : Nat, k ≤ l.length ∧ i = .int .i64 k ∧ n = .int .i64 (spanW (l.take k))) (fun _ i => l.length - (intOf i).toNat)
  case atStart => exact ⟨0, Nat.zero_le _, rfl, rfl⟩
  case round =>
    obtain ⟨k, hk, rfl, rfl⟩ := hrel
    have hle := spanW_le (l.take k)
    by_cases hlt : k < l.length
    · have HS := hide (spanW_snoc l k hlt)
      generalize spanW (l.take k) = n at *
      go_wp2
      go_round
      case rel =>
        refine ⟨k + 1, by omega, by go_num, ?_⟩
        rw [unhide HS]
        show Value.int .i64 (min (10 * (n : Int) + ((l[k].toNat : Int) - 48) % 256) 1000001) = _
        generalize l[k].toNat = c
        congr 1
        omega
      case measure => simp [intOf]; omega
    · go_wp2
      go_ret
      rw [List.take_of_length_le (by omega)]
      exact ⟨rfl, rfl⟩

end Go.Proofs.YtbljamcdaoofbaaGreatDoor

/- The reference's measure. -/
namespace Go.Proofs.YtbljamcdaoofbaaGreatDoor
open Go.RowKit

theorem rblock6_set3 {w : World} {p : Nat} {v0 v1 v2 v3 v4 v5 : Value} {t : TypeId} (h : w.heap[p]? = some (.cells #[v0, v1, v2, v3, v4, v5] t (0, 0))) (u : Value) :
    (w.setCell ⟨p, 3, none⟩ u).heap[p]? = some (.cells #[v0, v1, v2, u, v4, v5] t (0, 0)) := by
  simp [World.setCell, Array.getElem?_modify, h]
theorem rblock6_set4 {w : World} {p : Nat} {v0 v1 v2 v3 v4 v5 : Value} {t : TypeId} (h : w.heap[p]? = some (.cells #[v0, v1, v2, v3, v4, v5] t (0, 0))) (u : Value) :
    (w.setCell ⟨p, 4, none⟩ u).heap[p]? = some (.cells #[v0, v1, v2, v3, u, v5] t (0, 0)) := by
  simp [World.setCell, Array.getElem?_modify, h]
theorem RQAt.setRange {w : World} {base qb : Nat} {vM vF : Value} {meas by_ : List UInt8} {span bad : Int} {M : List Mch} {Fs : List Flt} (h : RQAt w base qb vM vF meas span by_ bad M Fs) (b : Int) : RQAt (w.setCell ⟨qb, 3, none⟩ (.int .i64 b)) base qb vM vF meas b by_ bad M Fs := by
  obtain ⟨k1, k2⟩ := h.other 3 (.int .i64 b)
  exact ⟨rblock6_set3 h.block _, ownsRow_same h.rowM k1, ownsRow_same h.rowF k2, h.apart, h.bqb⟩
theorem RQAt.setBy {w : World} {base qb : Nat} {vM vF : Value} {meas by_ : List UInt8} {span bad : Int} {M : List Mch} {Fs : List Flt} (h : RQAt w base qb vM vF meas span by_ bad M Fs) (b : List UInt8) : RQAt (w.setCell ⟨qb, 4, none⟩ (SV b)) base qb vM vF meas span b bad M Fs := by
  obtain ⟨k1, k2⟩ := h.other 4 (SV b)
  exact ⟨rblock6_set4 h.block _, ownsRow_same h.rowM k1, ownsRow_same h.rowF k2, h.apart, h.bqb⟩

/-- what measure answers, and leaves -/
def RMeasPost (w : World) (base qb g : Nat) (ts : List Tok) (meas : List UInt8) (p : Nat × Bool × Qry) (e : Ending) (w' : World) : Prop :=
  e = .returned (.int .i64 p.1) ∧ RToks w' g ts ∧ Below base w w' ∧ (p.2.1 = true → p.1 < ts.length ∧ ∃ vM vF, RQAt w' base qb vM vF meas p.2.2.span p.2.2.by_ (-1) p.2.2.ms p.2.2.fs) ∧
    (p.2.1 = false → p.1 < ts.length ∧ ∃ vM vF sp b M F, RQAt w' base qb vM vF meas sp b p.1 M F)

/-- it is wrong at place p -/
structure BadAt (w W : World) (base qb g : Nat) (ts : List Tok) (meas : List UInt8) (p : Nat) : Prop where
  toks : RToks W g ts
  below : Below base w W
  lt : p < ts.length
  query : ∃ vM vF sp b M F, RQAt W base qb vM vF meas sp b p M F

theorem BadAt.post {w W : World} {base qb g p : Nat} {ts : List Tok} {meas : List UInt8} (h : BadAt w W base qb g ts meas p) {res : Nat × Bool × Qry} {q : Qry} (he : res = (p, false, q)) : RMeasPost w base qb g ts meas res (.returned (.int .i64 p)) W := by
  subst he
  exact ⟨rfl, h.toks, h.below, (fun h => by cases h), fun _ => ⟨h.lt, h.query⟩⟩
theorem BadAt.need {w W : World} {base qb g p : Nat} {ts : List Tok} {meas : List UInt8} (h : BadAt w W base qb g ts meas p) (v : Value) (s : List UInt8) :
    Calls Tryz.prog 173 #[.pointer (some ⟨qb, 0, none⟩), v, .int .i64 p, .string ⟨s.toArray⟩] W fun e w' => e = .returned (.int .i64 p) ∧ w' = W := by
  obtain ⟨vM, vF, sp, b, M, F, hq⟩ := h.query
  exact need_bad hq
theorem BadAt.is {w W : World} {base qb g p : Nat} {ts : List Tok} {meas : List UInt8} (h : BadAt w W base qb g ts meas p) (v : Value) (z : Int) (s : List UInt8) :
    Calls Tryz.prog 175 #[.pointer (some ⟨qb, 0, none⟩), v, .int .i64 z, .string ⟨s.toArray⟩] W fun e w' => e = .returned (.bool false) ∧ w' = W := by
  obtain ⟨vM, vF, sp, b, M, F, hq⟩ := h.query
  exact is_bad hq
theorem BadAt.cell {w W : World} {base qb g p : Nat} {ts : List Tok} {meas : List UInt8} (h : BadAt w W base qb g ts meas p) : W.cell? ⟨qb, 5, none⟩ = some (.int .i64 p) := by
  obtain ⟨vM, vF, sp, b, M, F, hq⟩ := h.query
  exact (rcell6 hq.block).2.2.2.2.2.1
theorem BadAt.mk' {w W : World} {base qb g p : Nat} {ts : List Tok} {vM vF : Value} {meas by_ : List UInt8} {span : Int} {M : List Mch} {Fs : List Flt} (hq : RQAt W base qb vM vF meas span by_ (-1) M Fs) (ht : RToks W g ts) (hb : Below base w W) (hp : p < ts.length) :
    BadAt w (W.setCell ⟨qb, 5, none⟩ (.int .i64 p)) base qb g ts meas p :=
  ⟨ht.set hq 5 _, hb.setCell (p := ⟨qb, 5, none⟩) hq.bqb _, hp, _, _, _, _, _, _, hq.setBad p⟩

set_option maxRecDepth 10000 in
set_option maxHeartbeats 8000000 in
theorem rmeasure_any {w : World} {base qb g cap : Nat} {vM vF : Value} {meas : List UInt8} {ts : List Tok} (h : RQAt w base qb vM vF meas 0 [] (-1) [] []) (ht : RToks w g ts) (h1 : 1 < ts.length) (hn : ts.length ≤ 201) (hf : Fit ts) (hwh : Whole ts) (hb : base ≤ w.heap.size)
    (hme : ((tokAt ts 0).k == 0 && measB (tokAt ts 0).text) = true) (hmt : meas = (tokAt ts 0).text) :
    Calls Tryz.prog 144 #[.pointer (some ⟨qb, 0, none⟩), .slice (some ⟨g, 0, none⟩) ts.length cap] w (RMeasPost w base qb g ts meas (measI ts)) := by
  generalize hres : measI ts = res
  unfold measI at hres
  rw [if_neg (by simp [hme])] at hres
  have HF := hide hf
  have HW := hide hwh
  have e40 := isB_mark (r := []) (c := 40) hf h1 (by decide)
  clear hf hwh
  cases h40 : markB ts 1 [40] with
  | false =>
    rw [if_pos h40] at hres
    have hnd := need_no (cap := cap) h ht h1 (e40.trans h40)
    have hbad := BadAt.mk' h ht (Below.refl base w) h1
    have hneed := hbad.need (.slice (some ⟨g, 0, none⟩) ts.length cap) [91]
    have c5 := hbad.cell
    have HB := hide hbad
    have HE := hide hres.symm
    clear h ht hbad hres
    generalize (w.setCell ⟨qb, 5, none⟩ (.int .i64 ((1 : Nat) : Int))) = W at *
    go_enter Tryz.func144, Tryz.ntmps144
    go_wp2_with fail
    refine hnd.mono ?_
    rintro e w1 ⟨rfl, rfl⟩
    go_wp2_with fail
    refine hneed.mono ?_
    rintro e w2 ⟨rfl, rfl⟩
    go_wp2
    go_ret
    exact (unhide HB).post (unhide HE)
  | true =>
    rw [if_neg (by simp [h40])] at hres
    have hnd := need_ok (cap := cap) h ht h1 hn (e40.trans h40)
    have h2 : 2 < ts.length := tok_next (unhide HW) h1 (mark_k h40) (by omega)
    have hro := rrows_any (cap := cap) h ht h2 hn (unhide HF) (unhide HW) hb
    obtain ⟨-, -, -, -, -, c5, -⟩ := rcell6 h.block
    clear h ht e40 h40
    generalize rowsI ts 2 = R at *
    obtain ⟨j, ok, M, F⟩ := R
    simp only at hres
    go_enter Tryz.func144, Tryz.ntmps144
    go_wp2_with fail
    refine hnd.mono ?_
    rintro e w1 ⟨rfl, rfl⟩
    go_wp2_with fail
    refine hro.mono ?_
    rintro e w2 ⟨rfl, ht2, hb2, hg2, hx2⟩
    clear hro hnd c5
    have hsz2 := hb2.size
    cases ok with
    | false =>
      rw [if_pos rfl] at hres
      obtain ⟨hp, vM', vF', M', F', hq2⟩ := hx2 rfl
      have hbad : BadAt w1 w2 base qb g ts meas j := ⟨ht2, hb2, hp, _, _, _, _, _, _, hq2⟩
      have hneed := hbad.need (.slice (some ⟨g, 0, none⟩) ts.length cap) [91]
      have c5 := hbad.cell
      have HB := hide hbad
      have HE := hide hres.symm
      clear hbad hres hx2 hg2 hq2 ht2
      go_wp2_with fail
      refine hneed.mono ?_
      rintro e w3 ⟨rfl, rfl⟩
      go_wp2
      go_ret
      exact (unhide HB).post (unhide HE)
    | true =>
      rw [if_neg (by simp)] at hres
      obtain ⟨hj, vM', vF', hq2⟩ := hg2 rfl
      simp only at hj hq2
      unfold spanI at hres
      have e91 := isB_mark (r := []) (c := 91) (unhide HF) hj (by decide)
      clear hx2 hg2
      cases h91 : markB ts j [91] with
      | false =>
        simp only [if_pos h91, if_true] at hres
        have hnd := need_no (cap := cap) hq2 ht2 hj (e91.trans h91)
        have hbad := BadAt.mk' hq2 ht2 hb2 hj
        have c5 := hbad.cell
        have HB := hide hbad
        have HE := hide hres.symm
        clear hbad hres hq2 ht2 h91 e91
        generalize (w2.setCell ⟨qb, 5, none⟩ (.int .i64 (j : Int))) = W at *
        go_wp2_with fail
        refine hnd.mono ?_
        rintro e w3 ⟨rfl, rfl⟩
        go_wp2
        go_ret
        exact (unhide HB).post (unhide HE)
      | true =>
        simp only [h91, reduceCtorEq, if_false] at hres
        have hnd := need_ok (cap := cap) hq2 ht2 hj hn (e91.trans h91)
        have hj1 := tok_next (unhide HW) hj (mark_k h91) (by omega)
        obtain ⟨n0, -, n2⟩ := ht2.at hj1
        have hfj := (unhide HF) _ (tokAt_mem hj1)
        have hsp := rspan_any (tokAt ts (j + 1)).text w2 (by omega)
        obtain ⟨-, -, -, c3, -, c5, cf⟩ := rcell6 hq2.block
        have cf3 := cf 3
        have hq3 := hq2.setRange (spanW (tokAt ts (j + 1)).text)
        have ht3 := ht2.set hq2 3 (.int .i64 (spanW (tokAt ts (j + 1)).text : Int))
        have hb3 : Below base w1 (w2.setCell ⟨qb, 3, none⟩ (.int .i64 (spanW (tokAt ts (j + 1)).text : Int))) := hb2.setCell (p := ⟨qb, 3, none⟩) hq2.bqb _
        obtain ⟨d0, -, -⟩ := ht3.at hj1
        obtain ⟨-, -, -, d3, -, d5, df⟩ := rcell6 hq3.block
        rw [show ((j + 1 : Nat) : Int) = (j : Int) + 1 by omega] at hnd
        have HQ3 := hide hq3
        have HT3 := hide ht3
        have HB3 := hide hb3
        have hspe : (tokAt ts (j + 1)).k = 1 → spanW (tokAt ts (j + 1)).text = spanL (tokAt ts (j + 1)).text := fun hk => spanW_digits _ (hfj.2.2.2.2 hk).2
        have HSE := hide hspe
        have hswl := spanW_le (tokAt ts (j + 1)).text
        clear hq2 ht2 hq3 ht3 hb3 h91 e91 cf df hfj hspe
        generalize hsw : spanW (tokAt ts (j + 1)).text = sw at *
        have HSW := hide hsw
        clear hsw
        go_wp2_with fail
        refine hnd.mono ?_
        rintro e w3 ⟨rfl, rfl⟩
        clear hnd
        go_wp2_with fail
        refine hsp.mono ?_
        rintro e w3 ⟨rfl, rfl⟩
        clear hsp
        cases hs : spanAt ts (j + 1) with
        | false =>
          simp only [hs, if_true] at hres
          have HE := hide hres.symm
          have hwr := wrong_neg (j + 1) (unhide HQ3)
          rw [show ((j + 1 : Nat) : Int) = (j : Int) + 1 by omega] at hwr
          clear hres
          by_cases hk : (tokAt ts (j + 1)).k = 1
          · rw [hk] at n0 d0
            have hsl := unhide HSE hk
            have hsf : ¬ (1 ≤ sw ∧ sw ≤ 1000000) := by
              intro hc
              unfold spanAt at hs
              rw [hk, ← hsl] at hs
              simp [hc.1, hc.2] at hs
            clear hs hsl
            by_cases b1 : sw < 1
            · clear hsf
              go_wp2_with fail
              refine hwr.mono ?_
              rintro e w4 ⟨rfl, rfl⟩
              go_wp2
              go_ret
              have hfin := (BadAt.mk' (unhide HQ3) (unhide HT3) (unhide HB3) hj1).post (unhide HE)
              rw [show ((j + 1 : Nat) : Int) = (j : Int) + 1 by omega] at hfin
              exact hfin
            · have b2 : 1000000 < sw := by omega
              clear hsf
              go_wp2_with fail
              refine hwr.mono ?_
              rintro e w4 ⟨rfl, rfl⟩
              go_wp2
              go_ret
              have hfin := (BadAt.mk' (unhide HQ3) (unhide HT3) (unhide HB3) hj1).post (unhide HE)
              rw [show ((j + 1 : Nat) : Int) = (j : Int) + 1 by omega] at hfin
              exact hfin
          · have hkn : (((tokAt ts (j + 1)).k : Int) != 1) = true := by simp; omega
            clear hs hk
            go_wp2_with fail
            refine hwr.mono ?_
            rintro e w4 ⟨rfl, rfl⟩
            go_wp2
            go_ret
            have hfin := (BadAt.mk' (unhide HQ3) (unhide HT3) (unhide HB3) hj1).post (unhide HE)
            rw [show ((j + 1 : Nat) : Int) = (j : Int) + 1 by omega] at hfin
            exact hfin
        | true =>
          simp only [hs, reduceCtorEq, if_false] at hres
          have hk : (tokAt ts (j + 1)).k = 1 := by
            unfold spanAt at hs
            simp only [Bool.and_eq_true, beq_iff_eq] at hs
            exact hs.1.1
          have hsl := unhide HSE hk
          have hbb : 1 ≤ sw ∧ sw ≤ 1000000 := by
            unfold spanAt at hs
            rw [← hsl] at hs
            simp only [Bool.and_eq_true, beq_iff_eq, decide_eq_true_eq] at hs
            exact ⟨hs.1.2, hs.2⟩
          obtain ⟨b1, b2⟩ := hbb
          rw [hk] at n0 d0
          have hj2 := tok_next (unhide HW) hj1 hk (by omega)
          have e93 := isB_mark (r := []) (c := 93) (unhide HF) hj2 (by decide)
          have HSL := hide hsl
          clear hs hk hsl
          cases h93 : markB ts (j + 2) [93] with
          | false =>
            simp only [h93, if_true] at hres
            have hnd := need_no (cap := cap) (unhide HQ3) (unhide HT3) hj2 (e93.trans h93)
            have hbad := BadAt.mk' (unhide HQ3) (unhide HT3) (unhide HB3) hj2
            have hnb := hbad.need (.slice (some ⟨g, 0, none⟩) ts.length cap) [41]
            have hib := hbad.is (.slice (some ⟨g, 0, none⟩) ts.length cap) ((j + 2 : Nat) : Int) [98, 121]
            have c5' := hbad.cell
            have HE := hide hres.symm
            rw [show ((j + 2 : Nat) : Int) = (j : Int) + 1 + 1 by omega] at hnd hnb hib c5' hbad
            have HB' := hide hbad
            clear hbad hres h93 e93
            generalize ((w3.setCell ⟨qb, 3, none⟩ (.int .i64 (sw : Int))).setCell ⟨qb, 5, none⟩ (.int .i64 ((j : Int) + 1 + 1))) = W at *
            go_wp2_with fail
            refine hnd.mono ?_
            rintro e w4 ⟨rfl, rfl⟩
            go_wp2_with fail
            refine hnb.mono ?_
            rintro e w5 ⟨rfl, rfl⟩
            go_wp2_with fail
            refine hib.mono ?_
            rintro e w5 ⟨rfl, rfl⟩
            go_wp2
            go_ret
            have hfin := (unhide HB').post (unhide HE)
            rw [show ((j + 2 : Nat) : Int) = (j : Int) + 1 + 1 by omega] at hfin
            exact hfin
          | true =>
            simp only [h93, reduceCtorEq, if_false] at hres
            have hnd := need_ok (cap := cap) (unhide HQ3) (unhide HT3) hj2 hn (e93.trans h93)
            have hj3 : j + 3 < ts.length := tok_next (unhide HW) hj2 (mark_k h93) (by omega)
            have e41 := isB_mark (r := []) (c := 41) (unhide HF) hj3 (by decide)
            rw [show ((j + 2 : Nat) : Int) = (j : Int) + 1 + 1 by omega, show ((j + 2 + 1 : Nat) : Int) = (j : Int) + 1 + 1 + 1 by omega] at hnd
            clear h93 e93
            cases h41 : markB ts (j + 3) [41] with
            | false =>
              simp only [h41, if_true] at hres
              have hnd2 := need_no (cap := cap) (unhide HQ3) (unhide HT3) hj3 (e41.trans h41)
              have hbad := BadAt.mk' (unhide HQ3) (unhide HT3) (unhide HB3) hj3
              have hib := hbad.is (.slice (some ⟨g, 0, none⟩) ts.length cap) ((j + 3 : Nat) : Int) [98, 121]
              have HE := hide hres.symm
              rw [show ((j + 3 : Nat) : Int) = (j : Int) + 1 + 1 + 1 by omega] at hnd2 hib hbad
              have HB' := hide hbad
              clear hbad hres h41 e41
              generalize ((w3.setCell ⟨qb, 3, none⟩ (.int .i64 (sw : Int))).setCell ⟨qb, 5, none⟩ (.int .i64 ((j : Int) + 1 + 1 + 1))) = W at *
              go_wp2_with fail
              refine hnd.mono ?_
              rintro e w4 ⟨rfl, rfl⟩
              go_wp2_with fail
              refine hnd2.mono ?_
              rintro e w5 ⟨rfl, rfl⟩
              go_wp2_with fail
              refine hib.mono ?_
              rintro e w5 ⟨rfl, rfl⟩
              go_wp2
              go_ret
              have hfin := (unhide HB').post (unhide HE)
              rw [show ((j + 3 : Nat) : Int) = (j : Int) + 1 + 1 + 1 by omega] at hfin
              exact hfin
            | true =>
              simp only [h41, reduceCtorEq, if_false] at hres
              have hnd2 := need_ok (cap := cap) (unhide HQ3) (unhide HT3) hj3 hn (e41.trans h41)
              have hj4 : j + 4 < ts.length := tok_next (unhide HW) hj3 (mark_k h41) (by omega)
              have eby := isB_by (unhide HF) hj4
              have hib := is_neg (s := [98, 121]) (cap := cap) (unhide HQ3) (unhide HT3) hj4
              rw [show ((j + 3 : Nat) : Int) = (j : Int) + 1 + 1 + 1 by omega, show ((j + 3 + 1 : Nat) : Int) = (j : Int) + 1 + 1 + 1 + 1 by omega] at hnd2
              rw [eby, show ((j + 4 : Nat) : Int) = (j : Int) + 1 + 1 + 1 + 1 by omega] at hib
              unfold byI at hres
              clear h41 e41 eby
              cases hby : ((tokAt ts (j + 3 + 1)).k == 0 && (tokAt ts (j + 3 + 1)).text == [98, 121]) with
              | false =>
                simp only [hby, if_true] at hres
                rw [show j + 3 + 1 = j + 4 from rfl] at hby
                rw [hby] at hib
                have HE := hide hres.symm
                clear hres hby
                go_wp2_with fail
                refine hnd.mono ?_
                rintro e w4 ⟨rfl, rfl⟩
                go_wp2_with fail
                refine hnd2.mono ?_
                rintro e w5 ⟨rfl, rfl⟩
                go_wp2_with fail
                refine hib.mono ?_
                rintro e w5 ⟨rfl, rfl⟩
                go_wp2
                go_ret
                rw [unhide HE]
                refine ⟨by go_num, unhide HT3, unhide HB3, fun _ => ⟨hj4, vM', vF', ?_⟩, fun h => by cases h⟩
                show RQAt _ base qb vM' vF' meas ((spanL (tokAt ts (j + 1)).text : Nat) : Int) [] (-1) M F
                rw [← unhide HSL]
                exact unhide HQ3
              | true =>
                simp only [hby, reduceCtorEq, if_false] at hres
                rw [show j + 3 + 1 = j + 4 from rfl] at hby
                rw [hby] at hib
                have hk4 : (tokAt ts (j + 4)).k = 0 := by
                  simp only [Bool.and_eq_true, beq_iff_eq] at hby
                  exact hby.1
                have hj5 : j + 5 < ts.length := tok_next (unhide HW) hj4 hk4 (by omega)
                obtain ⟨p0, -, p2⟩ := (unhide HT3).at hj5
                have hfj := (unhide HF) _ (tokAt_mem hj5)
                obtain ⟨-, -, -, -, c4, -, cf⟩ := rcell6 (unhide HQ3).block
                have cf4 := cf 4
                have hq4 := (unhide HQ3).setBy (tokAt ts (j + 5)).text
                have ht4 := (unhide HT3).set (unhide HQ3) 4 (SV (tokAt ts (j + 5)).text)
                have hb4 : Below base w1 ((w3.setCell ⟨qb, 3, none⟩ (.int .i64 (sw : Int))).setCell ⟨qb, 4, none⟩ (SV (tokAt ts (j + 5)).text)) := (unhide HB3).setCell (p := ⟨qb, 4, none⟩) (unhide HQ3).bqb _
                obtain ⟨q0, -, -⟩ := ht4.at hj5
                obtain ⟨-, -, -, -, q4, -, -⟩ := rcell6 hq4.block
                have hwd := isWord_l (tokAt ts (j + 5)).text false ((w3.setCell ⟨qb, 3, none⟩ (.int .i64 (sw : Int))).setCell ⟨qb, 4, none⟩ (SV (tokAt ts (j + 5)).text)) (by omega)
                have hwr := wrong_neg (j + 5) hq4
                have hbd := BadAt.mk' hq4 ht4 hb4 hj5
                rw [show ((j + 5 : Nat) : Int) = (j : Int) + 1 + 1 + 1 + 1 + 1 by omega] at hwr hbd
                have HBd := hide hbd
                have HQ4 := hide hq4
                have HT4 := hide ht4
                have HB4 := hide hb4
                clear hbd hq4 ht4 hb4 cf hfj hby hk4
                rw [show j + 3 + 1 + 1 = j + 5 from rfl] at hres
                by_cases hk5 : (tokAt ts (j + 5)).k = 0
                · rw [hk5] at p0 q0
                  by_cases hwb : wordB false (tokAt ts (j + 5)).text = true
                  · have hw : wordAt ts (j + 5) = true := by unfold wordAt; rw [hk5, hwb]; rfl
                    simp only [hw, reduceCtorEq, if_false] at hres
                    have HE := hide hres.symm
                    have hk5' := hk5
                    rw [hwb] at hwd
                    clear hres hw hwb hk5
                    go_wp2_with fail
                    refine hnd.mono ?_
                    rintro e w4 ⟨rfl, rfl⟩
                    go_wp2_with fail
                    refine hnd2.mono ?_
                    rintro e w5 ⟨rfl, rfl⟩
                    go_wp2_with fail
                    refine hib.mono ?_
                    rintro e w5 ⟨rfl, rfl⟩
                    go_wp2_with fail
                    refine hwd.mono ?_
                    rintro e w6 ⟨rfl, rfl⟩
                    go_wp2
                    go_ret
                    rw [unhide HE]
                    refine ⟨by go_num, unhide HT4, unhide HB4, fun _ => ⟨?_, vM', vF', ?_⟩, fun h => by cases h⟩
                    · exact tok_next (unhide HW) hj5 hk5' (by omega)
                    · show RQAt _ base qb vM' vF' meas ((spanL (tokAt ts (j + 1)).text : Nat) : Int) (tokAt ts (j + 5)).text (-1) M F
                      rw [← unhide HSL]
                      exact unhide HQ4
                  · have hw : wordAt ts (j + 5) = false := by unfold wordAt; rw [hk5]; simpa using hwb
                    have hwf : wordB false (tokAt ts (j + 5)).text = false := by simpa using hwb
                    simp only [hw, if_true] at hres
                    have HE := hide hres.symm
                    rw [hwf] at hwd
                    clear hres hw hwb hwf hk5
                    go_wp2_with fail
                    refine hnd.mono ?_
                    rintro e w4 ⟨rfl, rfl⟩
                    go_wp2_with fail
                    refine hnd2.mono ?_
                    rintro e w5 ⟨rfl, rfl⟩
                    go_wp2_with fail
                    refine hib.mono ?_
                    rintro e w5 ⟨rfl, rfl⟩
                    go_wp2_with fail
                    refine hwd.mono ?_
                    rintro e w6 ⟨rfl, rfl⟩
                    go_wp2_with fail
                    refine hwr.mono ?_
                    rintro e w7 ⟨rfl, rfl⟩
                    go_wp2
                    go_ret
                    have hfin := (unhide HBd).post (unhide HE)
                    rw [show ((j + 5 : Nat) : Int) = (j : Int) + 1 + 1 + 1 + 1 + 1 by omega] at hfin
                    exact hfin
                · have hw : wordAt ts (j + 5) = false := by unfold wordAt; simp [hk5]
                  have hkn : (((tokAt ts (j + 5)).k : Int) != 0) = true := by simp; omega
                  simp only [hw, if_true] at hres
                  have HE := hide hres.symm
                  generalize wordB false (tokAt ts (j + 5)).text = b at *
                  clear hres hw hk5
                  go_wp2_with fail
                  refine hnd.mono ?_
                  rintro e w4 ⟨rfl, rfl⟩
                  go_wp2_with fail
                  refine hnd2.mono ?_
                  rintro e w5 ⟨rfl, rfl⟩
                  go_wp2_with fail
                  refine hib.mono ?_
                  rintro e w5 ⟨rfl, rfl⟩
                  go_wp2_with fail
                  refine hwd.mono ?_
                  rintro e w6 ⟨rfl, rfl⟩
                  go_wp2_with fail
                  refine hwr.mono ?_
                  rintro e w7 ⟨rfl, rfl⟩
                  go_wp2
                  go_ret
                  have hfin := (unhide HBd).post (unhide HE)
                  rw [show ((j + 5 : Nat) : Int) = (j : Int) + 1 + 1 + 1 + 1 + 1 by omega] at hfin
                  exact hfin

end Go.Proofs.YtbljamcdaoofbaaGreatDoor

/- span, by, measure, whole of the program's reader. -/
namespace Go.Proofs.YtbljamcdaoofbaaGreatDoor
open Go.RowKit

theorem block6_set1 {w : World} {p : Nat} {v0 v1 v2 v3 v4 v5 : Value} {t : TypeId} (h : w.heap[p]? = some (.cells #[v0, v1, v2, v3, v4, v5] t (0, 0))) (u : Value) :
    (w.setCell ⟨p, 1, none⟩ u).heap[p]? = some (.cells #[v0, u, v2, v3, v4, v5] t (0, 0)) := by
  simp [World.setCell, Array.getElem?_modify, h]
theorem block6_set2 {w : World} {p : Nat} {v0 v1 v2 v3 v4 v5 : Value} {t : TypeId} (h : w.heap[p]? = some (.cells #[v0, v1, v2, v3, v4, v5] t (0, 0))) (u : Value) :
    (w.setCell ⟨p, 2, none⟩ u).heap[p]? = some (.cells #[v0, v1, u, v3, v4, v5] t (0, 0)) := by
  simp [World.setCell, Array.getElem?_modify, h]
theorem block6_set3 {w : World} {p : Nat} {v0 v1 v2 v3 v4 v5 : Value} {t : TypeId} (h : w.heap[p]? = some (.cells #[v0, v1, v2, v3, v4, v5] t (0, 0))) (u : Value) :
    (w.setCell ⟨p, 3, none⟩ u).heap[p]? = some (.cells #[v0, v1, v2, u, v4, v5] t (0, 0)) := by
  simp [World.setCell, Array.getElem?_modify, h]

theorem ReaderAt.setMeas {w : World} {base rb g cap i : Nat} {ts : List Tok} {x meas by_ : List UInt8} {span : Int} {vm vf : Value} {M : List Mch} {Fs : List Flt} (h : ReaderAt w base rb g cap ts x i meas span by_ vm vf M Fs) (m : List UInt8) : ReaderAt (w.setCell ⟨rb, 1, none⟩ (SV m)) base rb g cap ts x i m span by_ vm vf M Fs := by
  obtain ⟨k1, k2, k3⟩ := h.set 1 (SV m)
  refine ⟨block6_set1 h.block _, ?_, ownsRow_same h.rowM k2, ownsRow_same h.rowF k3, h.brb, h.bg, h.small, h.caps, h.ilt, h.whole, h.fit, h.mlen, h.flen⟩
  obtain ⟨cur, hc, hcur⟩ := h.toks
  exact ⟨cur, by rw [k1]; exact hc, hcur⟩
theorem ReaderAt.setSpan {w : World} {base rb g cap i : Nat} {ts : List Tok} {x meas by_ : List UInt8} {span : Int} {vm vf : Value} {M : List Mch} {Fs : List Flt} (h : ReaderAt w base rb g cap ts x i meas span by_ vm vf M Fs) (m : Int) : ReaderAt (w.setCell ⟨rb, 2, none⟩ (.int .i64 m)) base rb g cap ts x i meas m by_ vm vf M Fs := by
  obtain ⟨k1, k2, k3⟩ := h.set 2 (.int .i64 m)
  refine ⟨block6_set2 h.block _, ?_, ownsRow_same h.rowM k2, ownsRow_same h.rowF k3, h.brb, h.bg, h.small, h.caps, h.ilt, h.whole, h.fit, h.mlen, h.flen⟩
  obtain ⟨cur, hc, hcur⟩ := h.toks
  exact ⟨cur, by rw [k1]; exact hc, hcur⟩
theorem ReaderAt.setBy {w : World} {base rb g cap i : Nat} {ts : List Tok} {x meas by_ : List UInt8} {span : Int} {vm vf : Value} {M : List Mch} {Fs : List Flt} (h : ReaderAt w base rb g cap ts x i meas span by_ vm vf M Fs) (m : List UInt8) : ReaderAt (w.setCell ⟨rb, 3, none⟩ (SV m)) base rb g cap ts x i meas span m vm vf M Fs := by
  obtain ⟨k1, k2, k3⟩ := h.set 3 (SV m)
  refine ⟨block6_set3 h.block _, ?_, ownsRow_same h.rowM k2, ownsRow_same h.rowF k3, h.brb, h.bg, h.small, h.caps, h.ilt, h.whole, h.fit, h.mlen, h.flen⟩
  obtain ⟨cur, hc, hcur⟩ := h.toks
  exact ⟨cur, by rw [k1]; exact hc, hcur⟩

theorem spanAt_eq (ts : List Tok) (i : Nat) : ((tokAt ts i).k == 1 && spanT (tokAt ts i).text) = spanAt ts i := by
  unfold spanAt spanT
  rw [Bool.and_assoc]

/-- what a rule that lays more than matchers and filters answers, and leaves; where it is wrong, what was laid is whatever -/
def RuleP (w : World) (base rb g cap : Nat) (ts : List Tok) (x : List UInt8) (j : Nat) (ok : Bool) (meas : List UInt8) (span : Int) (by_ : List UInt8) (M : List Mch) (Fs : List Flt) (e : Ending) (w' : World) : Prop :=
  e = .returned (.bool ok) ∧ Below base w w' ∧ (ok = true → ∃ vm vf, ReaderAt w' base rb g cap ts x j meas span by_ vm vf M Fs) ∧
    (ok = false → ∃ meas' span' by' vm vf M' F', ReaderAt w' base rb g cap ts x j meas' span' by' vm vf M' F')

theorem RuleP.good {w w' : World} {base rb g cap j : Nat} {ts : List Tok} {x meas by_ : List UInt8} {span : Int} {M : List Mch} {Fs : List Flt} {vm vf : Value} (h : ReaderAt w' base rb g cap ts x j meas span by_ vm vf M Fs) (hb : Below base w w') :
    RuleP w base rb g cap ts x j true meas span by_ M Fs (.returned (.bool true)) w' := ⟨rfl, hb, fun _ => ⟨_, _, h⟩, fun h => by cases h⟩
theorem RuleP.bad {w w' : World} {base rb g cap j : Nat} {ts : List Tok} {x meas by_ meas1 by1 : List UInt8} {span span1 : Int} {M M1 : List Mch} {Fs F1 : List Flt} {vm vf : Value} (h : ReaderAt w' base rb g cap ts x j meas span by_ vm vf M Fs) (hb : Below base w w') :
    RuleP w base rb g cap ts x j false meas1 span1 by1 M1 F1 (.returned (.bool false)) w' := ⟨rfl, hb, (fun h => by cases h), fun _ => ⟨_, _, _, _, _, _, _, h⟩⟩

set_option maxRecDepth 10000 in
set_option maxHeartbeats 4000000 in
theorem span_any {w : World} {base rb g cap i : Nat} {ts : List Tok} {x meas by_ : List UInt8} {span : Int} {vm vf : Value} {M : List Mch} {Fs : List Flt} (h : ReaderAt w base rb g cap ts x i meas span by_ vm vf M Fs) (hb : base ≤ w.heap.size) (hG : ErrAt w) (h8 : 8 ≤ base) :
    Calls Tryz.prog 158 #[.pointer (some ⟨rb, 0, none⟩)] w (RuleP w base rb g cap ts x (spanI ts i).1 (spanI ts i).2.1 meas (spanI ts i).2.2 by_ M Fs) := by
  have hm := mark_any [91] h hb
  clear h
  generalize hres : spanI ts i = res
  have HS := hide hres
  clear hres
  go_enter Tryz.func158, Tryz.ntmps158
  go_wp2_with fail
  refine hm.mono ?_
  rintro e w1 ⟨rfl, hr1, hb1⟩
  clear hm
  have hsz1 := hb1.size
  cases h1 : markB ts i [91] with
  | false =>
    rw [h1] at hr1
    have HR := hide hr1
    obtain rfl : (i, false, 0) = res := by rw [← unhide HS, spanI, if_pos h1]
    clear hr1 h1 HS
    go_wp2
    go_ret
    exact RuleP.bad (unhide HR) hb1
  | true =>
    rw [h1, if_pos rfl] at hr1
    have hG1 := hG.below hb1 (by omega)
    have ht := takeSpan hr1 (by omega) hG1
    rw [spanAt_eq] at ht
    have hfit := (tok_fit hr1).2
    clear hr1
    go_wp2_with fail
    refine ht.mono ?_
    rintro e w2 ⟨rfl, hr2, hb2⟩
    clear ht
    have hsz2 := hb2.size
    cases h2 : spanAt ts (i + 1) with
    | false =>
      rw [h2] at hr2
      have HR := hide hr2
      obtain rfl : (i + 1, false, 0) = res := by rw [← unhide HS, spanI, if_neg (by simp [h1]), if_pos h2]
      clear hr2 h1 h2 HS
      simp only [if_false, reduceCtorEq]
      go_wp2
      go_ret
      exact RuleP.bad (unhide HR) (hb1.trans hb2)
    | true =>
      rw [h2, if_pos rfl] at hr2
      have hk1 : (tokAt ts (i + 1)).k = 1 := by
        have := h2
        unfold spanAt at this
        simp only [Bool.and_eq_true, beq_iff_eq] at this
        exact this.1.1
      have hsT : spanT (tokAt ts (i + 1)).text = true := by
        have := h2
        rw [← spanAt_eq, Bool.and_eq_true] at this
        exact this.2
      have hdg := hfit.2 hk1
      have hsp := spanOf_any (tokAt ts (i + 1)).text w2 hdg.2 hdg.1 hfit.1 (hG1.below hb2 (by omega))
      rw [spanV_t hsT, hsT] at hsp
      have hbrb := hr2.brb
      have hk := fun (w3 : World) (hb3 : Below w2.heap.size w2 w3) => (hr2.below hb3)
      have HK := hide hk
      clear hr2 hk
      simp only [if_true]
      go_wp2_with fail
      refine hsp.mono ?_
      rintro e w3 ⟨rfl, hb3⟩
      have hr3 := unhide HK w3 hb3
      obtain ⟨-, -, c2, -, -, -, cf⟩ := cell_of_block6 hr3.block
      have cf2 := cf 2
      have hr4 := hr3.setSpan (spanL (tokAt ts (i + 1)).text)
      have hb4 : Below base w (w3.setCell ⟨rb, 2, none⟩ (.int .i64 (spanL (tokAt ts (i + 1)).text : Int))) := ((hb1.trans hb2).trans (hb3.mono (by omega))).setCell (p := ⟨rb, 2, none⟩) hbrb _
      have hmk := mark_any [93] hr4 (by have := hb4.size; omega)
      clear hr3 cf hsp hr4
      go_wp2_with fail
      refine hmk.mono ?_
      rintro e w5 ⟨rfl, hr5, hb5⟩
      clear hmk
      cases h3 : markB ts (i + 2) [93] with
      | false =>
        rw [show i + 1 + 1 = i + 2 from rfl, h3] at hr5
        have HR := hide hr5
        obtain rfl : (i + 2, false, spanL (tokAt ts (i + 1)).text) = res := by rw [← unhide HS, spanI, if_neg (by simp [h1]), if_neg (by simp [h2]), if_pos h3]
        clear hr5 h1 h2 h3 HS
        go_wp2
        go_ret
        exact RuleP.bad (unhide HR) (hb4.trans hb5)
      | true =>
        rw [show i + 1 + 1 = i + 2 from rfl, h3, if_pos rfl] at hr5
        have HR := hide hr5
        obtain rfl : (i + 3, true, spanL (tokAt ts (i + 1)).text) = res := by rw [← unhide HS, spanI, if_neg (by simp [h1]), if_neg (by simp [h2]), if_neg (by simp [h3])]
        clear hr5 h1 h2 h3 HS
        go_wp2
        go_ret
        exact RuleP.good (unhide HR) (hb4.trans hb5)

set_option maxRecDepth 10000 in
set_option maxHeartbeats 4000000 in
theorem by_any {w : World} {base rb g cap i : Nat} {ts : List Tok} {x meas : List UInt8} {span : Int} {vm vf : Value} {M : List Mch} {Fs : List Flt} (h : ReaderAt w base rb g cap ts x i meas span [] vm vf M Fs) (hb : base ≤ w.heap.size) :
    Calls Tryz.prog 159 #[.pointer (some ⟨rb, 0, none⟩)] w (RuleP w base rb g cap ts x (byI ts i).1 (byI ts i).2.1 meas span (byI ts i).2.2 M Fs) := by
  have hm := takeBy h hb
  clear h
  generalize hres : byI ts i = res
  have HS := hide hres
  clear hres
  go_enter Tryz.func159, Tryz.ntmps159
  go_wp2_with fail
  refine hm.mono ?_
  rintro e w1 ⟨rfl, hr1, hb1⟩
  clear hm
  have hsz1 := hb1.size
  cases h1 : ((tokAt ts i).k == 0 && (tokAt ts i).text == [98, 121]) with
  | false =>
    rw [h1] at hr1
    have HR := hide hr1
    obtain rfl : (i, true, []) = res := by rw [← unhide HS, byI, if_pos h1]
    clear hr1 h1 HS
    simp only [if_false, reduceCtorEq]
    go_wp2
    go_ret
    exact RuleP.good (unhide HR) hb1
  | true =>
    rw [h1, if_pos rfl] at hr1
    have ht := takeName hr1 (by omega)
    rw [show ((tokAt ts (i + 1)).k == 0 && wordB false (tokAt ts (i + 1)).text) = wordAt ts (i + 1) from rfl] at ht
    clear hr1
    simp only [if_true]
    go_wp2_with fail
    refine ht.mono ?_
    rintro e w2 ⟨rfl, hr2, hb2⟩
    clear ht
    have hsz2 := hb2.size
    have hbrb := hr2.brb
    obtain ⟨-, -, -, c3, -, -, cf⟩ := cell_of_block6 hr2.block
    have cf3 := cf 3
    clear cf
    cases h2 : wordAt ts (i + 1) with
    | false =>
      rw [h2] at hr2
      have HR := hide (hr2.setBy [])
      obtain rfl : (i + 1, false, []) = res := by rw [← unhide HS, byI, if_neg (by simp [h1]), if_pos h2]
      clear hr2 h1 h2 HS
      simp only [if_false, reduceCtorEq]
      go_wp2
      go_ret
      exact RuleP.bad (unhide HR) ((hb1.trans hb2).setCell (p := ⟨rb, 3, none⟩) hbrb _)
    | true =>
      rw [h2, if_pos rfl] at hr2
      have HR := hide (hr2.setBy (tokAt ts (i + 1)).text)
      obtain rfl : (i + 2, true, (tokAt ts (i + 1)).text) = res := by rw [← unhide HS, byI, if_neg (by simp [h1]), if_neg (by simp [h2])]
      clear hr2 h1 h2 HS
      simp only [if_true]
      go_wp2
      go_ret
      exact RuleP.good (unhide HR) ((hb1.trans hb2).setCell (p := ⟨rb, 3, none⟩) hbrb _)

set_option maxRecDepth 10000 in
set_option maxHeartbeats 4000000 in
theorem measure_any {w : World} {base rb g cap : Nat} {ts : List Tok} {x : List UInt8} {vm vf : Value} (h : ReaderAt w base rb g cap ts x 0 [] 0 [] vm vf [] []) (hb : base ≤ w.heap.size) (hG : ErrAt w) (h8 : 8 ≤ base) :
    Calls Tryz.prog 124 #[.pointer (some ⟨rb, 0, none⟩)] w (RuleP w base rb g cap ts x (measI ts).1 (measI ts).2.1 (measI ts).2.2.meas (measI ts).2.2.span (measI ts).2.2.by_ (measI ts).2.2.ms (measI ts).2.2.fs) := by
  have hm := takeMeas h hb
  clear h
  generalize hres : measI ts = res
  have HS := hide hres
  clear hres
  go_enter Tryz.func124, Tryz.ntmps124
  go_wp2_with fail
  refine hm.mono ?_
  rintro e w1 ⟨rfl, hr1, hb1⟩
  clear hm
  have hsz1 := hb1.size
  have hE := unhide HS
  unfold measI at hE
  cases h1 : ((tokAt ts 0).k == 0 && measB (tokAt ts 0).text) with
  | false =>
    rw [h1] at hr1
    have HR := hide hr1
    rw [if_pos h1] at hE
    subst hE
    clear hr1 h1 HS
    simp only [if_false, reduceCtorEq]
    go_wp2
    go_ret
    exact RuleP.bad (unhide HR) hb1
  | true =>
    rw [h1, if_pos rfl] at hr1
    rw [if_neg (by simp [h1])] at hE
    have hm2 := mark_any [40] hr1 (by omega)
    clear hr1
    simp only [if_true]
    go_wp2_with fail
    refine hm2.mono ?_
    rintro e w2 ⟨rfl, hr2, hb2⟩
    clear hm2
    have hsz2 := hb2.size
    cases h2 : markB ts 1 [40] with
    | false =>
      rw [show 0 + 1 = 1 from rfl, h2] at hr2
      have HR := hide hr2
      rw [if_pos h2] at hE
      subst hE
      clear hr2 h1 h2 HS
      go_wp2
      go_ret
      exact RuleP.bad (unhide HR) (hb1.trans hb2)
    | true =>
      rw [show 0 + 1 = 1 from rfl, h2, if_pos rfl] at hr2
      rw [if_neg (by simp [h2])] at hE
      have hm3 := prows_any hr2 (by omega)
      clear hr2
      go_wp2_with fail
      refine hm3.mono ?_
      rintro e w3 ⟨rfl, ⟨vm3, vf3, hr3⟩, hb3⟩
      clear hm3
      have hsz3 := hb3.size
      rw [show 1 + 1 = 2 from rfl] at hr3
      generalize rowsI ts 2 = R3 at *
      obtain ⟨j3, ok3, M3, F3⟩ := R3
      simp only at hr3 hE
      cases ok3 with
      | false =>
        have HR := hide hr3
        rw [if_pos rfl] at hE
        subst hE
        clear hr3 h1 h2 HS
        go_wp2
        go_ret
        exact RuleP.bad (unhide HR) ((hb1.trans hb2).trans hb3)
      | true =>
        rw [if_neg (by simp)] at hE
        have hG3 : ErrAt w3 := hG.below ((hb1.trans hb2).trans hb3) (by omega)
        have hm4 := span_any hr3 (by omega) hG3 h8
        clear hr3
        go_wp2_with fail
        refine hm4.mono ?_
        rintro e w4 ⟨rfl, hb4, hg4, hx4⟩
        clear hm4
        have hsz4 := hb4.size
        generalize spanI ts j3 = R4 at *
        obtain ⟨j4, ok4, sp4⟩ := R4
        simp only at hg4 hx4 hE
        cases ok4 with
        | false =>
          obtain ⟨m', s', b', vm', vf', M', F', hr4⟩ := hx4 rfl
          have HR := hide hr4
          rw [if_pos rfl] at hE
          subst hE
          clear hr4 h1 h2 HS hg4 hx4
          go_wp2
          go_ret
          exact RuleP.bad (unhide HR) (((hb1.trans hb2).trans hb3).trans hb4)
        | true =>
          obtain ⟨vm4, vf4, hr4⟩ := hg4 rfl
          rw [if_neg (by simp)] at hE
          have hm5 := mark_any [41] hr4 (by omega)
          clear hr4 hg4 hx4
          go_wp2_with fail
          refine hm5.mono ?_
          rintro e w5 ⟨rfl, hr5, hb5⟩
          clear hm5
          have hsz5 := hb5.size
          cases h5 : markB ts j4 [41] with
          | false =>
            rw [h5] at hr5
            have HR := hide hr5
            rw [if_pos h5] at hE
            subst hE
            clear hr5 h1 h2 h5 HS
            go_wp2
            go_ret
            exact RuleP.bad (unhide HR) ((((hb1.trans hb2).trans hb3).trans hb4).trans hb5)
          | true =>
            rw [h5, if_pos rfl] at hr5
            rw [if_neg (by simp [h5])] at hE
            have hbrb := hr5.brb
            obtain ⟨-, c1, -, -, -, -, cf⟩ := cell_of_block6 hr5.block
            have cf1 := cf 1
            have hr6 := hr5.setMeas (tokAt ts 0).text
            have hb6 : Below base w (w5.setCell ⟨rb, 1, none⟩ (SV (tokAt ts 0).text)) := (((((hb1.trans hb2).trans hb3).trans hb4).trans hb5)).setCell (p := ⟨rb, 1, none⟩) hbrb _
            have hm6 := by_any hr6 (by have := hb6.size; omega)
            clear hr5 hr6 cf
            generalize byI ts (j4 + 1) = R6 at *
            subst hE
            clear h1 h2 h5 HS
            go_wp2_with fail
            refine hm6.mono ?_
            rintro e w7 ⟨rfl, hb7, hg7, hx7⟩
            have HG7 := hide hg7
            have HX7 := hide hx7
            clear hm6 hg7 hx7
            go_wp2
            go_ret
            exact ⟨rfl, hb6.trans hb7, unhide HG7, unhide HX7⟩

end Go.Proofs.YtbljamcdaoofbaaGreatDoor
