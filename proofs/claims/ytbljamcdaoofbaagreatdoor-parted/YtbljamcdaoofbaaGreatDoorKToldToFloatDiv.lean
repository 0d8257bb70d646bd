/- Texts KTold, KFind, KTok, FloatPure, FloatDiv, joined. -/
import Derived.Test.YtbljamcdaoofbaaGreatDoorKSmallToOwnRaw
import Derived.Laws.FloatArith
/- loamkeep's told: all rows, window by window. -/
namespace Go.Proofs.YtbljamcdaoofbaaGreatDoor
open Go.RowKit

theorem win_none (a : Int) {L : List Rw} (h : RiseL L) : winL a a L = [] := by
  rw [List.eq_nil_iff_forall_not_mem]
  intro x hx
  have := (((win_spec a a h).2.2 x).1 hx).2
  unfold inW at this
  simp only [Bool.and_eq_true, decide_eq_true_eq] at this
  omega

theorem cells_of_row {w : World} {a : Addr} {R : List Rw} (h1 : a.off = 0) (h2 : a.spot = none) (h : ∀ j, j < R.length * 3 → w.cell? ⟨a.block, j, none⟩ = (R.flatMap cellsR)[j]?) : ∀ j u, (R.flatMap cellsR)[j]? = some u → w.cell? (a.add j) = some u := by
  intro j u hj
  obtain ⟨g, o, s⟩ := a
  simp only at h1 h2 h
  subst h1 h2
  have hl := (List.getElem?_eq_some_iff.1 hj).1
  rw [flat3_len] at hl
  rw [addr_add, Nat.zero_add, h j hl]
  exact hj

def ToldP (w : World) (L : List Rw) (e : Ending) (w' : World) : Prop :=
  ∃ v, e = .returned (.tuple #[v, .bool true]) ∧ w'.ownsRow w.heap.size 38 3 v (winL 0 200 L).length ((winL 0 200 L).flatMap cellsR) ∧ Below w.heap.size w w'

set_option maxRecDepth 10000 in
set_option maxHeartbeats 4000000 in
theorem told_any {w0 w : World} {F : Nat → Prop} {p : Nat} {S : List Strm} {L : List Rw} (h : KeepAt w0 w F p S L) (hg : Glob w0) (h5 : ∀ r ∈ L, r.1 ∈ five) (hr : RiseL L) (hL : L.length ≤ 40) :
    Calls Tryz.prog 15 #[.pointer (some ⟨p, 0, none⟩), .int .i64 200] w (ToldP w L) := by
  obtain ⟨i0, hi, hz0, hz1, hz2⟩ := info_parts Tryz.info38
  have HH := hide h
  have HG := hide hg
  have H5 := hide h5
  have HR := hide hr
  clear h hg h5 hr
  go_enter Tryz.func15, Tryz.ntmps15
  go_wp2_with fail
  go_loopw [6, 7] (fun v tv wr => ∃ j : Nat, j ≤ 25 ∧ tv = .int .i64 (8 * (j : Int)) ∧ wr.ownsRow w.heap.size 38 3 v (winL 0 (8 * (j : Int)) L).length ((winL 0 (8 * (j : Int)) L).flatMap cellsR) ∧ Hid (Below w.heap.size w wr)) (fun _ tv _ => 200 - (intOf tv).toNat)
  case atStart => exact ⟨0, by omega, rfl, by rw [show (8 * ((0 : Nat) : Int)) = 0 from rfl, win_none 0 (unhide HR)]; exact World.ownsRow_nil _ _ _ _, hide (Below.refl _ _)⟩
  case round =>
    obtain ⟨j, hj, rfl, hown, HBR⟩ := hrel
    by_cases hlt : j < 25
    · have hkeep := (unhide HH).below (unhide HBR)
      obtain ⟨hE, hA⟩ := ev_rows (fr := 8 * (j : Int)) (tt := 8 * (j : Int) + 8) (lim := 50) (bw := false) (unhide H5) (by omega) (by omega) (by omega) (by omega) (by omega)
      have hkr := krows_any evQ (8 * (j : Int)) (8 * (j : Int) + 8) 50 false hkeep (by decide) (unhide HG)
      have hwl := win_len (8 * (j : Int)) (8 * (j : Int) + 8) L
      have hwl0 := win_len 0 (8 * (j : Int)) L
      have hA2 : rowsA evQ (8 * (j : Int)) (8 * (j : Int) + 8) 50 false L = winL (8 * (j : Int)) (8 * (j : Int) + 8) L := by
        rw [hA]
        exact List.take_of_length_le (by show (winL _ _ L).length ≤ 50; omega)
      rw [hE, hA2] at hkr
      have HAP := hide (win_app (a := 0) (b := 8 * (j : Int)) (c := 8 * (j : Int) + 8) (by omega) (by omega) (unhide HR))
      have HM := hide (show min (8 * (j : Int) + 8) 200 = 8 * (j : Int) + 8 by omega)
      have hszr := (unhide HBR).size
      clear hkeep hE hA hA2
      unfold evQ at hkr
      generalize winL (8 * (j : Int)) (8 * (j : Int) + 8) L = R at *
      go_wp2_with fail
      rw [unhide HM]
      refine hkr.mono ?_
      rintro e w2 ⟨v2, rfl, hown2, hb2⟩
      clear hkr
      have hsz2 := hb2.size
      have rowO : w2.ownsRow w.heap.size 38 3 u6 _ _ := ownsRow_same hown fun b hb' => hb2.block b (ownsRow_type hown hb').1
      have HBW := hide ((unhide HBR).trans (hb2.mono hszr))
      obtain ⟨aR, cR, rfl, -, -, nilR, aoR, cellR, -⟩ := owns_form hown2
      have HNR := hide nilR
      have HCR := hide (show ∀ a, aR = some a → ∀ j u, (R.flatMap cellsR)[j]? = some u → w2.cell? (a.add j) = some u from fun a ha => cells_of_row (aoR a ha).1 (aoR a ha).2.1 (cellR a ha))
      obtain ⟨aO, cO, rfl, -, -, -, -, -, -⟩ := owns_form rowO
      have hRl := flat3_len R
      clear hown hown2 hb2 nilR aoR cellR
      generalize winL 0 (8 * (j : Int)) L = O at *
      go_wp2_with (at_builtin; refine wpList_append_at _ rfl _ _ 28 rfl w.heap.size 38 i0 _ 3 40 Tryz.underlying28 hi hz0 hz1 hz2 rfl (by decide) _ _ _ rfl rowO aR R.length cR (R.flatMap cellsR) rfl hRl (unhide HNR) (unhide HCR) (flat3_one _) (by unfold maxLen; omega) (by omega) (by omega) ?_; intro v6 w6 hown6 hgrow6 hwh6)
      go_roundw
      case rel =>
        refine ⟨j + 1, by omega, by go_num, ?_, hide ((unhide HBW).grown hgrow6 (unhide HBW).size (fun k hk => (rowO.lt k hk).1))⟩
        rw [show (8 * ((j + 1 : Nat) : Int)) = 8 * (j : Int) + 8 by omega, ← unhide HAP, List.flatMap_append, List.length_append]
        exact hown6
      case measure => simp [intOf]; omega
    · have hj25 : j = 25 := by omega
      subst hj25
      have HF := hide (show ToldP w L (.returned (.tuple #[u6, .bool true])) wr from ⟨_, rfl, by rw [show (8 * ((25 : Nat) : Int)) = 200 from rfl] at hown; exact hown, unhide HBR⟩)
      go_wp2_with fail
      go_ret2
      exact unhide HF

end Go.Proofs.YtbljamcdaoofbaaGreatDoor

/- The document's first two examples, as loamkeep tries them. -/
namespace Go.Proofs.YtbljamcdaoofbaaGreatDoor
open Go.RowKit

def webA : List UInt8 := [97, 112, 112, 61, 119, 101, 98, 44, 122, 111, 110, 101, 61, 97]
def webB : List UInt8 := [97, 112, 112, 61, 119, 101, 98, 44, 122, 111, 110, 101, 61, 98]
def dbL : List UInt8 := [97, 112, 112, 61, 100, 98]
def badL : List UInt8 := [122, 111, 110, 101, 61, 97, 44, 97, 112, 112, 61, 119, 101, 98]
def get7 : List UInt8 := [103, 101, 116, 32, 55]
def put12 : List UInt8 := [112, 117, 116, 32, 49, 50]
def t12 : List UInt8 := [49, 50]
def m4 : List UInt8 := [45, 52]

def exS : List Strm := [(webA, 9), (webB, 5), (dbL, 3)]
def exL : List Rw := [(webA, 5, get7), (webB, 5, put12), (webA, 9, t12), (dbL, 3, m4)]

theorem ex1 : pushR [] [] webA 5 get7 = (0, [(webA, 5)], [(webA, 5, get7)]) := by kernel_rfl
theorem ex2 : pushR [(webA, 5)] [(webA, 5, get7)] webB 5 put12 = (0, [(webA, 5), (webB, 5)], [(webA, 5, get7), (webB, 5, put12)]) := by kernel_rfl
theorem ex3 : pushR [(webA, 5), (webB, 5)] [(webA, 5, get7), (webB, 5, put12)] webA 9 t12 = (0, [(webA, 9), (webB, 5)], [(webA, 5, get7), (webB, 5, put12), (webA, 9, t12)]) := by kernel_rfl
theorem ex4 : pushR [(webA, 9), (webB, 5)] [(webA, 5, get7), (webB, 5, put12), (webA, 9, t12)] dbL 3 m4 = (0, exS, exL) := by kernel_rfl
theorem ex5 : pushR exS exL dbL 2 [] = (4, exS, exL) := by kernel_rfl
theorem ex6 : pushR exS exL badL 9 [] = (1, exS, exL) := by kernel_rfl

def ExP (w : World) (e : Ending) (w' : World) : Prop := e = .returned (.pointer (some ⟨w.heap.size, 0, none⟩)) ∧ ∃ F, KeepAt w w' F w.heap.size exS exL

set_option maxRecDepth 10000 in
set_option maxHeartbeats 2000000 in
theorem example_any (w : World) : Calls Tryz.prog 35 #[] w (ExP w) := by
  go_enter Tryz.func35, Tryz.ntmps35
  go_wp2_with fail
  refine (knew_any w).mono ?_
  rintro e w1 ⟨rfl, hk1⟩
  have hp1 := kpush_any webA get7 5 hk1 (by decide) (by decide)
  clear hk1
  go_wp2_with fail
  refine hp1.mono ?_
  rintro e w2 ⟨rfl, F2, hk2, -, -⟩
  rw [ex1] at hk2 ⊢
  have hp2 := kpush_any webB put12 5 hk2 (by decide) (by decide)
  clear hk2 hp1
  go_wp2_with fail
  refine hp2.mono ?_
  rintro e w3 ⟨rfl, F3, hk3, -, -⟩
  rw [ex2] at hk3 ⊢
  have hp3 := kpush_any webA t12 9 hk3 (by decide) (by decide)
  clear hk3 hp2
  go_wp2_with fail
  refine hp3.mono ?_
  rintro e w4 ⟨rfl, F4, hk4, -, -⟩
  rw [ex3] at hk4 ⊢
  have hp4 := kpush_any dbL m4 3 hk4 (by decide) (by decide)
  clear hk4 hp3
  go_wp2_with fail
  refine hp4.mono ?_
  rintro e w5 ⟨rfl, F5, hk5, -, -⟩
  rw [ex4] at hk5 ⊢
  have hp5 := kpush_any dbL [] 2 hk5 (by decide) (by decide)
  clear hk5 hp4
  go_wp2_with fail
  refine hp5.mono ?_
  rintro e w6 ⟨rfl, F6, hk6, -, -⟩
  rw [ex5] at hk6 ⊢
  have hp6 := kpush_any badL [] 9 hk6 (by decide) (by decide)
  clear hk6 hp5
  go_wp2_with fail
  refine hp6.mono ?_
  rintro e w7 ⟨rfl, F7, hk7, -, -⟩
  rw [ex6] at hk7 ⊢
  have HF := hide (show ExP w (.returned (.pointer (some ⟨w.heap.size, 0, none⟩))) w7 from ⟨rfl, F7, hk7⟩)
  clear hk7 hp6
  go_wp2_with fail
  go_ret
  exact unhide HF

def q1 : List UInt8 := [123, 97, 112, 112, 61, 34, 119, 101, 98, 34, 125]
def q2 : List UInt8 := [123, 97, 112, 112, 61, 34, 119, 101, 98, 34, 125, 32, 124, 61, 32, 34, 49, 34]
def q3 : List UInt8 := [123, 97, 112, 112, 32, 61, 32, 119, 101, 98, 125]

theorem f1 : rowsE q1 0 100 10 = (0, 0) ∧ rowsA q1 0 100 10 false exL = [(webA, 5, get7), (webB, 5, put12), (webA, 9, t12)] := by
  unfold rowsA rowsE
  rw [parseF_eq]
  exact ⟨by kernel_rfl, by kernel_rfl⟩
theorem f2 : rowsE q2 0 100 1 = (0, 0) ∧ rowsA q2 0 100 1 true exL = [(webA, 9, t12)] := by
  unfold rowsA rowsE
  rw [parseF_eq]
  exact ⟨by kernel_rfl, by kernel_rfl⟩
theorem f3 : rowsE q3 0 100 1 = (8, 7) := by
  unfold rowsE
  rw [parseF_eq]
  kernel_rfl

set_option maxRecDepth 10000 in
set_option maxHeartbeats 2000000 in
theorem finding_any {w : World} (hg : Glob w) : Calls Tryz.prog 13 #[] w fun e w' => e = .returned (.bool true) ∧ Below w.heap.size w w' := by
  have HG := hide hg
  clear hg
  go_enter Tryz.func13, Tryz.ntmps13
  go_wp2_with fail
  refine (example_any w).mono ?_
  rintro e w1 ⟨rfl, F, hk⟩
  have h1 := krows_any q1 0 100 10 false hk (by decide) (unhide HG)
  rw [f1.1, f1.2] at h1
  have HK := hide hk
  clear hk
  go_wp2_with fail
  refine h1.mono ?_
  rintro e w2 ⟨v1, rfl, hown1, hb1⟩
  have h2 := krows_any q2 0 100 1 true ((unhide HK).below hb1) (by decide) (unhide HG)
  rw [f2.1, f2.2] at h2
  have HB1 := hide hb1
  clear hb1 h1
  go_wp2_with fail
  refine h2.mono ?_
  rintro e w3 ⟨v2, rfl, hown2, hb2⟩
  have h3 := krows_any q3 0 100 1 true (((unhide HK).below (unhide HB1)).below hb2) (by decide) (unhide HG)
  rw [f3] at h3
  have HB2 := hide hb2
  clear hb2 h2
  go_wp2_with fail
  refine h3.mono ?_
  rintro e w4 ⟨v3, rfl, -, hb3⟩
  have hfin : Below w.heap.size w w4 := (((unhide HK).below (unhide HB1)).below (unhide HB2)).below hb3 |>.bel
  have r1 : w4.ownsRow w1.heap.size 38 3 v1 3 _ := ownsRow_same hown1 fun b hb' => by
    have h1 := (ownsRow_type hown1 hb').1
    rw [hb3.block b (Nat.lt_of_lt_of_le h1 (unhide HB2).size), (unhide HB2).block b h1]
  have r2 : w4.ownsRow w2.heap.size 38 3 v2 1 _ := ownsRow_same hown2 fun b hb' => hb3.block b (ownsRow_type hown2 hb').1
  obtain ⟨g1, c1, rfl, -, -, -, -, k1, -⟩ := owns_open r1 (by omega)
  obtain ⟨g2, c2, rfl, -, -, -, -, k2, -⟩ := owns_open r2 (by omega)
  have a3 : w4.cell? ⟨g1, 3, none⟩ = some (SV webB) := k1 3 (by omega)
  have a4 : w4.cell? ⟨g1, 4, none⟩ = some (.int .i64 5) := k1 4 (by omega)
  have a5 : w4.cell? ⟨g1, 5, none⟩ = some (SV put12) := k1 5 (by omega)
  have b0 : w4.cell? ⟨g2, 0, none⟩ = some (SV webA) := k2 0 (by omega)
  have b1 : w4.cell? ⟨g2, 1, none⟩ = some (.int .i64 9) := k2 1 (by omega)
  have b2 : w4.cell? ⟨g2, 2, none⟩ = some (SV t12) := k2 2 (by omega)
  have HFI := hide hfin
  clear hown1 hown2 hb3 h3 k1 k2 hfin r1 r2
  unfold webA webB put12 t12 at *
  go_wp2_with fail
  go_ret
  exact ⟨rfl, unhide HFI⟩

end Go.Proofs.YtbljamcdaoofbaaGreatDoor

/- The tokens of a query that is written of pieces. -/
namespace Go.Proofs.YtbljamcdaoofbaaGreatDoor
open Go.RowKit

/-- the tokens of any text from a place on, behind which this rest stands -/
def TokR (r : List UInt8) (p : Nat) (ts : List Tok) : Prop := ∀ s : List UInt8, s.drop p = r → toks s p = ts

theorem toks_at {s r : List UInt8} {p : Nat} (h : s.drop p = r) (hb : blanks r = 0) : toks s p = if (tok1 r).1 < 4 then ⟨(tok1 r).1, p, (tok1 r).2.1⟩ :: toks s (p + (tok1 r).2.2) else [⟨(tok1 r).1, p, (tok1 r).2.1⟩] := by
  rw [toks, h, hb, Nat.add_zero, h]

theorem TokR.step {r r' : List UInt8} {p k n : Nat} {x : List UInt8} {ts : List Tok} (hb : blanks r = 0) (ht : tok1 r = (k, x, n)) (hk : k < 4) (hd : r.drop n = r') (h : TokR r' (p + n) ts) : TokR r p (⟨k, p, x⟩ :: ts) := by
  intro s hs
  rw [toks_at hs hb, ht, if_pos hk, h s (by rw [← List.drop_drop, hs, hd])]

theorem TokR.fin (p : Nat) : TokR [] p [⟨4, p, []⟩] := by
  intro s hs
  rw [toks_at hs rfl]
  rfl

theorem TokR.blank {r : List UInt8} {p : Nat} {ts : List Tok} (h : TokR r (p + 1) ts) : TokR (32 :: r) p ts := by
  intro s hs
  have h1 : s.drop (p + 1) = r := by rw [← List.drop_drop, hs]; rfl
  have e : blanks (32 :: r) = blanks r + 1 := by simp [blanks]
  rw [← h s h1, toks.eq_1 s p, toks.eq_1 s (p + 1), hs, h1, e, show p + (blanks r + 1) = p + 1 + blanks r by omega]

def mkB (c : UInt8) : Bool := !isL c && !isD c && c != 34 && c != 33 && c != 124 && isM c && c != 32

theorem TokR.mark {c : UInt8} {r : List UInt8} {p : Nat} {ts : List Tok} (hc : mkB c = true) (h : TokR r (p + 1) ts) : TokR (c :: r) p (⟨3, p, [c]⟩ :: ts) := by
  unfold mkB at hc
  simp only [Bool.and_eq_true, Bool.not_eq_true', bne_iff_ne, ne_eq] at hc
  obtain ⟨⟨⟨⟨⟨⟨c1, c2⟩, c3⟩, c4⟩, c5⟩, c6⟩, c7⟩ := hc
  refine TokR.step (n := 1) ?_ ?_ (by omega) rfl h
  · simp [blanks, c7]
  · rw [tok1_cons, if_neg (by simp [c1]), if_neg (by simp [c2]), if_neg c3, if_neg (by simp [c4, c5]), if_pos c6]

theorem TokR.two {c : UInt8} {r : List UInt8} {p : Nat} {ts : List Tok} (hc : c = 33 ∨ c = 124) (h : TokR r (p + 2) ts) : TokR (c :: 61 :: r) p (⟨3, p, [c, 61]⟩ :: ts) := by
  refine TokR.step (n := 2) ?_ ?_ (by omega) rfl h
  · rcases hc with rfl | rfl <;> rfl
  · rcases hc with rfl | rfl <;> rfl

theorem quote_app {t : List UInt8} (h : ∀ x ∈ t, x ≠ 34) (r : List UInt8) : quoteAt (t ++ 34 :: r) = some t.length := by
  induction t with
  | nil => rfl
  | cons c t ih =>
    rw [List.cons_append, quoteAt, if_neg (h c List.mem_cons_self), ih fun x hx => h x (List.mem_cons_of_mem _ hx)]
    rfl

theorem TokR.str {t r : List UInt8} {p : Nat} {ts : List Tok} (ht : ∀ x ∈ t, x ≠ 34) (h : TokR r (p + (t.length + 2)) ts) : TokR (34 :: (t ++ 34 :: r)) p (⟨2, p, t⟩ :: ts) := by
  refine TokR.step (n := t.length + 2) rfl ?_ (by omega) ?_ h
  · rw [tok1_cons, if_neg (by decide), if_neg (by decide), if_pos rfl, quote_app ht]
    simp
  · rw [show t.length + 2 = (t.length + 1) + 1 by omega, List.drop_succ_cons, List.drop_append, List.drop_of_length_le (by omega)]
    simp

theorem takeW_all {f : UInt8 → Bool} {w r : List UInt8} (hw : w.all f = true) (hr : ∀ c, r.head? = some c → f c = false) : (w ++ r).takeWhile f = w := by
  induction w with
  | nil =>
    cases r with
    | nil => rfl
    | cons c r => rw [List.nil_append, List.takeWhile_cons, hr c rfl]; rfl
  | cons c w ih =>
    rw [List.all_cons, Bool.and_eq_true] at hw
    rw [List.cons_append, List.takeWhile_cons, hw.1, if_pos rfl, ih hw.2]

theorem letter_not (c : UInt8) (h : isL c = true) : c ≠ 32 := by
  rintro rfl
  exact absurd h (by decide)

theorem digit_not (c : UInt8) (h : isD c = true) : c ≠ 32 ∧ isL c = false := by
  revert h
  unfold isD isL digitB letterB
  intro h
  refine ⟨?_, ?_⟩
  · rintro rfl; exact absurd h (by decide)
  · simp only [Bool.and_eq_true, decide_eq_true_eq] at h
    simp
    omega

theorem TokR.word {w r : List UInt8} {p : Nat} {ts : List Tok} (hn : w ≠ []) (hw : w.all isL = true) (hr : ∀ c, r.head? = some c → isL c = false) (h : TokR r (p + w.length) ts) : TokR (w ++ r) p (⟨0, p, w⟩ :: ts) := by
  have e := takeW_all hw hr
  cases w with
  | nil => exact absurd rfl hn
  | cons c w =>
    have hc : isL c = true := by rw [List.all_cons, Bool.and_eq_true] at hw; exact hw.1
    refine TokR.step (n := (c :: w).length) ?_ ?_ (by omega) (by simp) h
    · simp [blanks, letter_not c hc]
    · rw [List.cons_append, tok1_cons, if_pos hc, ← List.cons_append, e]

theorem TokR.num {w r : List UInt8} {p : Nat} {ts : List Tok} (hn : w ≠ []) (hw : w.all isD = true) (hr : ∀ c, r.head? = some c → isD c = false) (h : TokR r (p + w.length) ts) : TokR (w ++ r) p (⟨1, p, w⟩ :: ts) := by
  have e := takeW_all hw hr
  cases w with
  | nil => exact absurd rfl hn
  | cons c w =>
    have hc : isD c = true := by rw [List.all_cons, Bool.and_eq_true] at hw; exact hw.1
    obtain ⟨h1, h2⟩ := digit_not c hc
    refine TokR.step (n := (c :: w).length) ?_ ?_ (by omega) (by simp) h
    · simp [blanks, h1]
    · rw [List.cons_append, tok1_cons, if_neg (by simp [h2]), if_pos hc, ← List.cons_append, e]

theorem TokR.parse {l : List UInt8} {ts : List Tok} (h : TokR l 0 ts) : (parseL l).2 = (wholeI ts).2 := by
  unfold parseL
  rw [h l rfl]

/-- a measure, of its parts -/
theorem meas_of {ts : List Tok} {j e r : Nat} {ms : List Mch} {fs : List Flt} {by_ : List UInt8} (h0 : (tokAt ts 0).k = 0) (hm : measB (tokAt ts 0).text = true) (h1 : markB ts 1 [40] = true) (hr : rowsI ts 2 = (j, true, ms, fs)) (hb : markB ts j [91] = true) (hk : (tokAt ts (j + 1)).k = 1)
    (hs : spanL (tokAt ts (j + 1)).text = r) (hr1 : 1 ≤ r) (hr2 : r ≤ 1000000) (hc : markB ts (j + 2) [93] = true) (hp : markB ts (j + 3) [41] = true) (hby : byI ts (j + 4) = (e, true, by_)) (hend : (tokAt ts e).k = 4) : (wholeI ts).2 = (true, ⟨ms, fs, (tokAt ts 0).text, r, by_⟩) := by
  have hsp : spanI ts j = (j + 3, true, r) := by
    unfold spanI
    rw [if_neg (by simp [hb]), if_neg (by simp [spanAt, hk, hs, hr1, hr2]), if_neg (by simp [hc]), hs]
  have ha : anyI ts = (e, true, ⟨ms, fs, (tokAt ts 0).text, r, by_⟩) := by
    unfold anyI measI
    rw [if_pos (by simp [h0]), if_neg (by simp [h0, hm]), if_neg (by simp [h1]), hr, if_neg (by simp), hsp, if_neg (by simp), if_neg (by simp [hp]), show j + 3 + 1 = j + 4 from rfl, hby]
  unfold wholeI
  rw [ha]
  simp [hend]

/-- what is known of small numbers' digits -/
theorem dig_all : (List.range 151).all (fun n => (digL n).all isD && (spanL (digL n) == n) && decide (1 ≤ (digL n).length) && decide ((digL n).length ≤ 3)) = true := by kernel_rfl
theorem dig_small {n : Nat} (h : n ≤ 150) : (digL n).all isD = true ∧ spanL (digL n) = n ∧ digL n ≠ [] ∧ (digL n).length ≤ 3 := by
  have := List.all_eq_true.1 dig_all n (List.mem_range.2 (by omega))
  simp only [Bool.and_eq_true, beq_iff_eq, decide_eq_true_eq] at this
  obtain ⟨⟨⟨h1, h2⟩, h3⟩, h4⟩ := this
  exact ⟨h1, h2, fun e => by rw [e] at h3; simp at h3, h4⟩

end Go.Proofs.YtbljamcdaoofbaaGreatDoor

/- Floats of 32 bits as quotients of whole numbers: what the document's rounding is, and that the machine's is the same. -/
namespace Go.Proofs.YtbljamcdaoofbaaGreatDoor

/-- a / b to the nearest whole number, between two to the even one -/
def rne (a b : Nat) : Nat := a / b + (if b < 2 * (a % b) ∨ (2 * (a % b) = b ∧ a / b % 2 = 1) then 1 else 0)

theorem rne_mul (c a b : Nat) (hc : 0 < c) : rne (c * a) (c * b) = rne a b := by
  unfold rne
  rw [Nat.mul_div_mul_left _ _ hc, Nat.mul_mod_mul_left]
  have e1 : (c * b < 2 * (c * (a % b))) ↔ b < 2 * (a % b) := by
    rw [Nat.mul_left_comm]
    exact ⟨fun h => Nat.lt_of_mul_lt_mul_left h, fun h => Nat.mul_lt_mul_of_pos_left h hc⟩
  have e2 : (2 * (c * (a % b)) = c * b) ↔ 2 * (a % b) = b := by
    rw [Nat.mul_left_comm]
    exact ⟨fun h => Nat.eq_of_mul_eq_mul_left hc h, fun h => by rw [h]⟩
  simp only [e1, e2]

theorem rne_ratio {a b a' b' : Nat} (hb : 0 < b) (hb' : 0 < b') (h : a * b' = a' * b) : rne a b = rne a' b' := by
  rw [← rne_mul b' a b hb', ← rne_mul b a' b' hb, Nat.mul_comm b' a, h, Nat.mul_comm b' b, Nat.mul_comm a' b]

/-- a digit that tells whether anything is left over is enough -/
theorem rne_sticky (D n g : Nat) (hn : 0 < n) (hg : 0 < g) : rne (2 * (D / n) + (if D % n = 0 then 0 else 1)) (4 * g) = rne D (n * (2 * g)) := by
  have hf := Nat.div_add_mod D n
  have hr := Nat.mod_lt D hn
  generalize hF : D / n = f at *
  generalize D % n = r at *
  have hh := Nat.div_add_mod f (2 * g)
  have hl := Nat.mod_lt f (show 0 < 2 * g by omega)
  generalize hL : f / (2 * g) = l at *
  generalize f % (2 * g) = h at *
  have q1 : (2 * f + (if r = 0 then 0 else 1)) / (4 * g) = l := by
    rw [Nat.div_eq_iff (by omega)]
    have : l * (4 * g) = 2 * (2 * g * l) := by rw [show 4 * g = 2 * (2 * g) by omega]; ac_rfl
    rw [this]
    split <;> omega
  have q2 : (2 * f + (if r = 0 then 0 else 1)) % (4 * g) = 2 * h + (if r = 0 then 0 else 1) := by
    have e := Nat.div_add_mod (2 * f + (if r = 0 then 0 else 1)) (4 * g)
    rw [q1] at e
    have : 4 * g * l = 2 * (2 * g * l) := by rw [← Nat.mul_assoc]; congr 1; omega
    omega
  have d1 : D / (n * (2 * g)) = l := by rw [← Nat.div_div_eq_div_mul, hF, hL]
  have d2 : D % (n * (2 * g)) = n * h + r := by
    have e := Nat.div_add_mod D (n * (2 * g))
    rw [d1] at e
    have e2 : n * f = n * (2 * g) * l + n * h := by rw [← hh, Nat.mul_add, ← Nat.mul_assoc]
    omega
  have c1 : (4 * g < 2 * (2 * h + (if r = 0 then 0 else 1))) ↔ (n * (2 * g) < 2 * (n * h + r)) := by
    have e3 : n * (2 * g) = 2 * (n * g) := by rw [Nat.mul_left_comm]
    rw [e3]
    rcases Nat.lt_trichotomy h g with hlt | heq | hgt
    · have : n * (h + 1) ≤ n * g := Nat.mul_le_mul_left n (by omega)
      rw [Nat.mul_add, Nat.mul_one] at this
      constructor
      · intro hx; exfalso; split at hx <;> omega
      · intro hx; exfalso; omega
    · subst heq
      by_cases e : r = 0
      · rw [if_pos e]; omega
      · rw [if_neg e]; omega
    · have : n * (g + 1) ≤ n * h := Nat.mul_le_mul_left n (by omega)
      rw [Nat.mul_add, Nat.mul_one] at this
      constructor
      · intro _; omega
      · intro _; split <;> omega
  have c2 : (2 * (2 * h + (if r = 0 then 0 else 1)) = 4 * g) ↔ (2 * (n * h + r) = n * (2 * g)) := by
    have e3 : n * (2 * g) = 2 * (n * g) := by rw [Nat.mul_left_comm]
    rw [e3]
    rcases Nat.lt_trichotomy h g with hlt | heq | hgt
    · have : n * (h + 1) ≤ n * g := Nat.mul_le_mul_left n (by omega)
      rw [Nat.mul_add, Nat.mul_one] at this
      constructor
      · intro hx; exfalso; split at hx <;> omega
      · intro hx; exfalso; omega
    · subst heq
      by_cases e : r = 0
      · rw [if_pos e]; omega
      · rw [if_neg e]; omega
    · have : n * (g + 1) ≤ n * h := Nat.mul_le_mul_left n (by omega)
      rw [Nat.mul_add, Nat.mul_one] at this
      constructor
      · intro hx; exfalso; split at hx <;> omega
      · intro hx; exfalso; omega
  unfold rne
  rw [q1, q2, d1, d2]
  simp only [c1, c2]

/-- the bits of A / B as a float -/
def IsF (A B bits : Nat) : Prop := ∃ E a b : Nat, 0 < b ∧ 8388608 * b ≤ a ∧ a < 16777216 * b ∧ a * B * 2 ^ E = A * b * 2 ^ 149 ∧ bits = E * 8388608 + rne a b

theorem IsF.uniq {A B x y : Nat} (hB : 0 < B) (h : IsF A B x) (h' : IsF A B y) : x = y := by
  obtain ⟨E, a, b, hb, h1, h2, h3, rfl⟩ := h
  obtain ⟨E', a', b', hb', h1', h2', h3', rfl⟩ := h'
  have key : a * b' * 2 ^ E = a' * b * 2 ^ E' := by
    have k1 : a * B * 2 ^ E * b' = a' * B * 2 ^ E' * b := by
      rw [h3, h3']
      ac_rfl
    refine Nat.eq_of_mul_eq_mul_left hB ?_
    exact (show B * (a * b' * 2 ^ E) = a * B * 2 ^ E * b' by ac_rfl).trans (k1.trans (by ac_rfl))
  have lo : ∀ {E E' a a' b b' : Nat}, 0 < b → 0 < b' → 8388608 * b ≤ a → a' < 16777216 * b' → a * b' * 2 ^ E = a' * b * 2 ^ E' → ¬ E' < E := by
    intro E E' a a' b b' hb hb' h1 h2 hk hlt
    obtain ⟨k, rfl⟩ : ∃ k, E = E' + 1 + k := ⟨E - E' - 1, by omega⟩
    rw [Nat.pow_add, Nat.pow_add, Nat.pow_one] at hk
    have hp : 0 < 2 ^ E' := Nat.two_pow_pos _
    have hk' : a * b' * (2 * 2 ^ k) = a' * b := by
      refine Nat.eq_of_mul_eq_mul_right hp ?_
      rw [← hk]; ac_rfl
    have hk1 : 1 ≤ 2 ^ k := Nat.two_pow_pos _
    have u1 : 8388608 * b * b' ≤ a * b' := Nat.mul_le_mul_right _ h1
    have u2 : a' * b < 16777216 * b' * b := Nat.mul_lt_mul_of_pos_right h2 hb
    have u3 : a * b' * 2 ≤ a * b' * (2 * 2 ^ k) := Nat.mul_le_mul_left _ (by omega)
    have u4 : 16777216 * b' * b = 2 * (8388608 * b * b') := by
      rw [← Nat.mul_assoc, ← Nat.mul_assoc, Nat.mul_right_comm]
    omega
  have e : E = E' := by
    have x1 := lo hb hb' h1 h2' key
    have x2 := lo hb' hb h1' h2 key.symm
    omega
  subst e
  have hk : a * b' = a' * b := Nat.eq_of_mul_eq_mul_right (Nat.two_pow_pos E) key
  rw [rne_ratio hb hb' hk]

/-- what the machine keeps of a whole number of 2 to the -149 -/
theorem cut_rne (n s : Nat) (hs : s ≤ n.log2 + 2) : Ieee.Toward.even.cut false n s = rne n (2 ^ s) := by
  unfold Ieee.Toward.cut rne
  simp only [Nat.min_eq_left hs, Nat.one_shiftLeft]
  congr 1
  by_cases h1 : 2 ^ s < 2 * (n % 2 ^ s)
  · simp [h1]
  · by_cases h2 : 2 ^ s = 2 * (n % 2 ^ s) ∧ n / 2 ^ s % 2 = 1
    · simp [← h2.1, h2.2]
    · have h3 : ¬ (2 ^ s < 2 * (n % 2 ^ s) ∨ 2 * (n % 2 ^ s) = 2 ^ s ∧ n / 2 ^ s % 2 = 1) := by
        rintro (h | h)
        · exact h1 h
        · exact h2 ⟨h.1.symm, h.2⟩
      rw [if_neg h3]
      simp only [h1, decide_false, Bool.false_or]
      by_cases h4 : 2 ^ s = 2 * (n % 2 ^ s)
      · have h5 : ¬ n / 2 ^ s % 2 = 1 := fun h => h2 ⟨h4, h⟩
        simp [h5]
      · simp [h4]

theorem log2_eq {n k : Nat} (h1 : 2 ^ k ≤ n) (h2 : n < 2 ^ (k + 1)) : n.log2 = k := by
  have hn : n ≠ 0 := by have := Nat.two_pow_pos k; omega
  have a := (Nat.le_log2 hn).2 h1
  have b := (Nat.log2_lt hn).2 h2
  omega

theorem rne_le {a b k : Nat} (hb : 0 < b) (h : a < k * b) : rne a b ≤ k := by
  have : a / b < k := (Nat.div_lt_iff_lt_mul hb).2 h
  unfold rne
  split <;> omega

theorem rne_ge {a b k : Nat} (hb : 0 < b) (h : k * b ≤ a) : k ≤ rne a b := by
  have : k ≤ a / b := (Nat.le_div_iff_mul_le hb).2 h
  unfold rne
  split <;> omega

theorem rung_small {E r : Nat} (h1 : E < 250) (h2 : r ≤ 16777216) : min (E * 8388608 + r) 2139095040 = E * 8388608 + r := by
  refine Nat.min_eq_left ?_
  have h3 : E * 8388608 ≤ 249 * 8388608 := Nat.mul_le_mul_right _ (by omega)
  exact Nat.le_trans (Nat.add_le_add h3 h2) (by decide)

/-- float32(A) -/
theorem ofNat_form {A : Nat} (h1 : 0 < A) (h2 : A < 2 ^ 60) : A.log2 < 60 ∧ 2 ^ A.log2 ≤ A ∧ Ieee.single.nearest false A 0 = (A.log2 + 126) * 8388608 + rne (A * 2 ^ (23 - A.log2)) (2 ^ (A.log2 - 23)) ∧ 8388608 * 2 ^ (A.log2 - 23) ≤ A * 2 ^ (23 - A.log2) ∧ A * 2 ^ (23 - A.log2) < 16777216 * 2 ^ (A.log2 - 23) := by
  have hne : A ≠ 0 := by omega
  have l1 := Nat.log2_self_le hne
  have l2 : A < 2 ^ (A.log2 + 1) := Nat.lt_log2_self
  have l3 : A.log2 < 60 := (Nat.log2_lt hne).2 h2
  unfold Ieee.Format.nearest
  rw [if_neg hne]
  have ef : (Ieee.single.fractionBits : Int) = 23 := rfl
  have el : Ieee.single.leastPlace = -149 := by decide
  have eb : Ieee.single.binade = 8388608 := by decide
  have ei : Ieee.single.infRung = 2139095040 := by decide
  simp only [ef, el, eb, ei]
  generalize hk : A.log2 = k at *
  have em : max ((0 : Int) + (k : Int) - 23) (-149) = (k : Int) - 23 := by omega
  rw [em]
  have e1 : ((k : Int) - 23 - -149).toNat = k + 126 := by omega
  have e2 : ((0 : Int) - ((k : Int) - 23)).toNat = 23 - k := by omega
  have e3 : ((k : Int) - 23 - 0).toNat = k - 23 := by omega
  rw [e1, e2, e3]
  have hlog : (A <<< (23 - k)).log2 = k + (23 - k) := by
    rw [Nat.shiftLeft_eq]
    refine log2_eq ?_ ?_
    · rw [Nat.pow_add]; exact Nat.mul_le_mul_right _ l1
    · rw [show k + (23 - k) + 1 = (k + 1) + (23 - k) by omega, Nat.pow_add]
      exact Nat.mul_lt_mul_of_pos_right l2 (Nat.two_pow_pos _)
  rw [cut_rne _ _ (by rw [hlog]; omega), Nat.shiftLeft_eq]
  have hp : 0 < 2 ^ (k - 23) := Nat.two_pow_pos _
  have hlo : 8388608 * 2 ^ (k - 23) ≤ A * 2 ^ (23 - k) := by
    rw [show 8388608 * 2 ^ (k - 23) = 2 ^ k * 2 ^ (23 - k) by rw [show (8388608 : Nat) = 2 ^ 23 by decide, ← Nat.pow_add, ← Nat.pow_add]; congr 1; omega]
    exact Nat.mul_le_mul_right _ l1
  have hhi : A * 2 ^ (23 - k) < 16777216 * 2 ^ (k - 23) := by
    rw [show 16777216 * 2 ^ (k - 23) = 2 ^ (k + 1) * 2 ^ (23 - k) by rw [show (16777216 : Nat) = 2 ^ 24 by decide, ← Nat.pow_add, ← Nat.pow_add]; congr 1; omega]
    exact Nat.mul_lt_mul_of_pos_right l2 (Nat.two_pow_pos _)
  have hle := rne_le hp hhi
  refine ⟨l3, l1, ?_, hlo, hhi⟩
  · unfold Ieee.Format.word
    rw [if_neg (by decide)]
    exact rung_small (by omega) hle

theorem ofNat_isF {A : Nat} (h1 : 0 < A) (h2 : A < 2 ^ 60) : IsF A 1 (Ieee.single.nearest false A 0) := by
  obtain ⟨-, -, e, hlo, hhi⟩ := ofNat_form h1 h2
  refine ⟨_, _, _, Nat.two_pow_pos _, hlo, hhi, ?_, e⟩
  rw [Nat.mul_one, Nat.mul_assoc, ← Nat.pow_add, Nat.mul_assoc, ← Nat.pow_add]
  congr 2
  omega

end Go.Proofs.YtbljamcdaoofbaaGreatDoor

/- The machine's quotient of two floats is the document's. -/
namespace Go.Proofs.YtbljamcdaoofbaaGreatDoor

theorem IsF.ratio {A B A' B' x : Nat} (hB : 0 < B) (e : A * B' = A' * B) (h : IsF A B x) : IsF A' B' x := by
  obtain ⟨E, a, b, hb, h1, h2, h3, rfl⟩ := h
  refine ⟨E, a, b, hb, h1, h2, ?_, rfl⟩
  refine Nat.eq_of_mul_eq_mul_left hB ?_
  exact (show B * (a * B' * 2 ^ E) = a * B * 2 ^ E * B' by ac_rfl).trans ((congrArg (· * B') h3).trans ((show A * b * 2 ^ 149 * B' = (A * B') * (b * 2 ^ 149) by ac_rfl).trans ((congrArg (· * (b * 2 ^ 149)) e).trans (by ac_rfl))))

theorem word_false (x : Nat) : Ieee.single.word false x = x := by
  unfold Ieee.Format.word
  rw [if_neg (by decide)]

theorem cut_neg (neg : Bool) (n d : Nat) : Ieee.Toward.even.cut neg n d = Ieee.Toward.even.cut false n d := by
  unfold Ieee.Toward.cut
  simp only

theorem nearest_neg (neg : Bool) (mag : Nat) (place : Int) : Ieee.single.nearest neg mag place = Ieee.single.word neg (Ieee.single.nearest false mag place) := by
  unfold Ieee.Format.nearest
  by_cases h : mag = 0
  · rw [if_pos h, if_pos h, word_false]
  · rw [if_neg h, if_neg h]
    simp only [cut_neg neg, word_false]

theorem read_word {neg : Bool} {E m : Nat} (h1 : 8388608 ≤ m) (h2 : m < 16777216) (hE : E < 250) : Ieee.single.read (Ieee.single.word neg (E * 8388608 + m)) = .number neg m ((E : Int) - 149) := by
  have es : Ieee.single.signWeight = 2147483648 := by decide
  have el : Ieee.single.leastPlace = -149 := by decide
  have eb : Ieee.single.binade = 8388608 := by decide
  have ei : Ieee.single.infRung = 2139095040 := by decide
  have hr : E * 8388608 + m < 2139095040 := by
    have h3 : E * 8388608 ≤ 249 * 8388608 := Nat.mul_le_mul_right _ (by omega)
    exact Nat.lt_of_lt_of_le (Nat.add_lt_add_of_le_of_lt h3 h2) (by decide)
  have hr2 : E * 8388608 + m < 2147483648 := Nat.lt_trans hr (by decide)
  have q1 : (E * 8388608 + m) / 8388608 = E + 1 := by
    rw [Nat.add_comm, Nat.add_mul_div_right _ _ (by decide)]
    have : m / 8388608 = 1 := by rw [Nat.div_eq_iff (by decide)]; omega
    omega
  have q2 : (E * 8388608 + m) % 8388608 = m - 8388608 := by
    rw [Nat.add_comm, Nat.add_mul_mod_self_right]
    have e : m = (m - 8388608) + 8388608 := by omega
    rw [e, Nat.add_mod_right, Nat.add_sub_cancel]
    exact Nat.mod_eq_of_lt (by omega)
  have hlow : ¬ (E * 8388608 + m < 8388608) := by omega
  have key : ∀ s : Bool, (if E * 8388608 + m < 8388608 then Ieee.Datum.number s (E * 8388608 + m) (-149) else if E * 8388608 + m < 2139095040 then .number s (8388608 + (E * 8388608 + m) % 8388608) (-149 + (((E * 8388608 + m) / 8388608 - 1 : Nat) : Int)) else if E * 8388608 + m = 2139095040 then .infinity s else .nan s (E * 8388608 + m - 2139095040)) = .number s m ((E : Int) - 149) := by
    intro s
    rw [if_neg hlow, if_pos hr, q1, q2]
    rw [show 8388608 + (m - 8388608) = m by omega, show (-149 : Int) + ((E + 1 - 1 : Nat) : Int) = (E : Int) - 149 by omega]
  generalize E * 8388608 + m = R at *
  unfold Ieee.Format.read Ieee.Format.word
  simp only [es, el, eb, ei]
  cases neg with
  | false =>
    have d1 : R / 2147483648 = 0 := Nat.div_eq_of_lt hr2
    have d2 : R % 2147483648 = R := Nat.mod_eq_of_lt hr2
    simp only [Bool.false_eq_true, if_false, d1, d2]
    exact key false
  | true =>
    have d1 : (2147483648 + R) / 2147483648 = 1 := by rw [Nat.add_div_left _ (by decide), Nat.div_eq_of_lt hr2]
    have d2 : (2147483648 + R) % 2147483648 = R := by rw [Nat.add_mod_left, Nat.mod_eq_of_lt hr2]
    simp only [if_true, d1, d2]
    exact key true

theorem ne_toNat (r : Nat) : (r != 0).toNat = if r = 0 then 0 else 1 := by
  by_cases h : r = 0 <;> simp [h]

/-- the quotient's digits, rounded -/
theorem near_div {m n E1 E2 s : Nat} (hn : 0 < n) (hs2 : 2 ≤ s) (hs3 : s ≤ 3) (hlog : (2 * (m * 2 ^ 25 / n) + (if m * 2 ^ 25 % n = 0 then 0 else 1)).log2 = 23 + s)
    (hlo : 8388608 * (n * 2 ^ (s - 1)) ≤ m * 2 ^ 25) (hhi : m * 2 ^ 25 < 16777216 * (n * 2 ^ (s - 1))) (h1 : 126 ≤ E1) (h2 : E1 ≤ 190) (h3 : 126 ≤ E2) (h4 : E2 ≤ 190) :
    IsF (m * 2 ^ E1) (n * 2 ^ E2) (Ieee.single.nearest false (2 * (m * 2 ^ 25 / n) + (if m * 2 ^ 25 % n = 0 then 0 else 1)) ((E1 : Int) - 149 - ((E2 : Int) - 149) - 25 - 1)) := by
  have hq0 : 2 * (m * 2 ^ 25 / n) + (if m * 2 ^ 25 % n = 0 then 0 else 1) ≠ 0 := by
    intro h
    rw [h] at hlog
    simp at hlog
    omega
  have hst := rne_sticky (m * 2 ^ 25) n (2 ^ (s - 2)) hn (Nat.two_pow_pos _)
  have e4 : 4 * 2 ^ (s - 2) = 2 ^ s := by rw [show (4 : Nat) = 2 ^ 2 by decide, ← Nat.pow_add]; congr 1; omega
  have e2 : 2 * 2 ^ (s - 2) = 2 ^ (s - 1) := by rw [Nat.mul_comm, ← Nat.pow_succ]; congr 1; omega
  rw [e4, e2] at hst
  generalize 2 * (m * 2 ^ 25 / n) + (if m * 2 ^ 25 % n = 0 then 0 else 1) = q at *
  unfold Ieee.Format.nearest
  rw [if_neg hq0]
  have ef : (Ieee.single.fractionBits : Int) = 23 := rfl
  have el : Ieee.single.leastPlace = -149 := by decide
  have eb : Ieee.single.binade = 8388608 := by decide
  have ei : Ieee.single.infRung = 2139095040 := by decide
  simp only [ef, el, eb, ei, hlog]
  have em : max ((E1 : Int) - 149 - ((E2 : Int) - 149) - 25 - 1 + ((23 + s : Nat) : Int) - 23) (-149) = (E1 : Int) - (E2 : Int) - 26 + (s : Int) := by omega
  rw [em]
  have x1 : ((E1 : Int) - (E2 : Int) - 26 + (s : Int) - -149).toNat = E1 + 123 + s - E2 := by omega
  have x2 : ((E1 : Int) - 149 - ((E2 : Int) - 149) - 25 - 1 - ((E1 : Int) - (E2 : Int) - 26 + (s : Int))).toNat = 0 := by omega
  have x3 : ((E1 : Int) - (E2 : Int) - 26 + (s : Int) - ((E1 : Int) - 149 - ((E2 : Int) - 149) - 25 - 1)).toNat = s := by omega
  rw [x1, x2, x3, Nat.shiftLeft_zero, cut_rne _ _ (by rw [hlog]; omega), hst]
  have hb : 0 < n * 2 ^ (s - 1) := Nat.mul_pos hn (Nat.two_pow_pos _)
  have hle := rne_le hb hhi
  refine ⟨E1 + 123 + s - E2, m * 2 ^ 25, n * 2 ^ (s - 1), hb, hlo, hhi, ?_, ?_⟩
  · have u : 25 + E2 + (E1 + 123 + s - E2) = E1 + (s - 1) + 149 := by omega
    have v : 2 ^ 25 * 2 ^ E2 * 2 ^ (E1 + 123 + s - E2) = 2 ^ E1 * 2 ^ (s - 1) * 2 ^ 149 := by rw [← Nat.pow_add, ← Nat.pow_add, ← Nat.pow_add, ← Nat.pow_add, u]
    generalize 2 ^ 25 = p1 at *
    generalize 2 ^ E2 = p2 at *
    generalize 2 ^ (E1 + 123 + s - E2) = p3 at *
    generalize 2 ^ E1 = p4 at *
    generalize 2 ^ (s - 1) = p5 at *
    generalize 2 ^ 149 = p6 at *
    exact (show m * p1 * (n * p2) * p3 = m * n * (p1 * p2 * p3) by ac_rfl).trans ((congrArg (m * n * ·) v).trans (by ac_rfl))
  · unfold Ieee.Format.word
    rw [if_neg (by decide)]
    exact rung_small (by omega) hle

/-- the machine's quotient -/
theorem div_isF {neg : Bool} {m n E1 E2 : Nat} (a1 : 8388608 ≤ m) (a2 : m < 16777216) (b1 : 8388608 ≤ n) (b2 : n < 16777216) (h1 : 126 ≤ E1) (h2 : E1 ≤ 190) (h3 : 126 ≤ E2) (h4 : E2 ≤ 190) :
    ∃ bits, Ieee.single.div (Ieee.single.word neg (E1 * 8388608 + m)) (Ieee.single.word false (E2 * 8388608 + n)) = some (Ieee.single.word neg bits) ∧ IsF (m * 2 ^ E1) (n * 2 ^ E2) bits := by
  have lm : m.log2 = 23 := log2_eq (by simpa using a1) (by simpa using a2)
  have ln : n.log2 = 23 := log2_eq (by simpa using b1) (by simpa using b2)
  have hn : 0 < n := by omega
  refine ⟨Ieee.single.nearest false (2 * (m * 2 ^ 25 / n) + (if m * 2 ^ 25 % n = 0 then 0 else 1)) ((E1 : Int) - 149 - ((E2 : Int) - 149) - 25 - 1), ?_, ?_⟩
  · unfold Ieee.Format.div
    rw [read_word a1 a2 (by omega), read_word b1 b2 (by omega)]
    unfold Ieee.Datum.quotient
    have hn0 : ¬ n = 0 := by omega
    simp only [hn0, if_false, lm, ln, Nat.shiftLeft_eq, ne_toNat]
    have ef : Ieee.single.fractionBits = 23 := rfl
    simp only [ef, Option.map_some, Ieee.Format.write, Bool.xor_false]
    rw [nearest_neg]
    rfl
  · by_cases hmn : n ≤ m
    · have p1 : n * 2 ^ 25 ≤ m * 2 ^ 25 := Nat.mul_le_mul_right _ hmn
      have p2 : m * 2 ^ 25 < n * 2 ^ 26 := by
        rw [show (2 : Nat) ^ 26 = 2 * 2 ^ 25 by decide, ← Nat.mul_assoc]
        exact Nat.mul_lt_mul_of_pos_right (by omega) (by decide)
      have q1 : 2 ^ 25 ≤ m * 2 ^ 25 / n := (Nat.le_div_iff_mul_le hn).2 (by rw [Nat.mul_comm]; exact p1)
      have q2 : m * 2 ^ 25 / n < 2 ^ 26 := (Nat.div_lt_iff_lt_mul hn).2 (by rw [Nat.mul_comm (2 ^ 26) n]; exact p2)
      refine near_div (s := 3) hn (by omega) (by omega) (log2_eq ?_ ?_) ?_ ?_ h1 h2 h3 h4
      · generalize m * 2 ^ 25 / n = f at *
        split <;> omega
      · generalize m * 2 ^ 25 / n = f at *
        split <;> omega
      · omega
      · omega
    · have p1 : n * 2 ^ 24 ≤ m * 2 ^ 25 := by
        rw [show (2 : Nat) ^ 25 = 2 * 2 ^ 24 by decide, ← Nat.mul_assoc]
        exact Nat.mul_le_mul_right _ (by omega)
      have p2 : m * 2 ^ 25 < n * 2 ^ 25 := Nat.mul_lt_mul_of_pos_right (by omega) (by decide)
      have q1 : 2 ^ 24 ≤ m * 2 ^ 25 / n := (Nat.le_div_iff_mul_le hn).2 (by rw [Nat.mul_comm]; exact p1)
      have q2 : m * 2 ^ 25 / n < 2 ^ 25 := (Nat.div_lt_iff_lt_mul hn).2 (by rw [Nat.mul_comm (2 ^ 25) n]; exact p2)
      refine near_div (s := 2) hn (by omega) (by omega) (log2_eq ?_ ?_) ?_ ?_ h1 h2 h3 h4
      · generalize m * 2 ^ 25 / n = f at *
        split <;> omega
      · generalize m * 2 ^ 25 / n = f at *
        split <;> omega
      · omega
      · omega

end Go.Proofs.YtbljamcdaoofbaaGreatDoor
