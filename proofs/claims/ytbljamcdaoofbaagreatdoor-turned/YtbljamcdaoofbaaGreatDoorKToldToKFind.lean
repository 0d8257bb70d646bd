/- Texts KTold, KFind, joined. -/
import Derived.Test.YtbljamcdaoofbaaGreatDoorKPureToOwnRaw
/- loamkeep's told: all rows, window by window. -/
namespace Go.Proofs.YtbljamcdaoofbaaGreatDoor
open Go.RowKit

theorem win_none (a : Int) {L : List Rw} (h : RiseL L) : winL a a L = [] := by
  rw [List.eq_nil_iff_forall_not_mem]
  intro x hx
  have := (((win_spec a a h).2.2 x).1 hx).2
  unfold inW at this
  simp only [Bool.and_eq_true, decide_eq_true_eq] at this
  omega

theorem cells_of_row {w : World} {a : Addr} {R : List Rw} (h1 : a.off = 0) (h2 : a.spot = none) (h : ∀ j, j < R.length * 3 → w.cell? ⟨a.block, j, none⟩ = (R.flatMap cellsR)[j]?) : ∀ j u, (R.flatMap cellsR)[j]? = some u → w.cell? (a.add j) = some u := by
  intro j u hj
  obtain ⟨g, o, s⟩ := a
  simp only at h1 h2 h
  subst h1 h2
  have hl := (List.getElem?_eq_some_iff.1 hj).1
  rw [flat3_len] at hl
  rw [addr_add, Nat.zero_add, h j hl]
  exact hj

def ToldP (w : World) (L : List Rw) (e : Ending) (w' : World) : Prop :=
  ∃ v, e = .returned (.tuple #[v, .bool true]) ∧ w'.ownsRow w.heap.size 38 3 v (winL 0 200 L).length ((winL 0 200 L).flatMap cellsR) ∧ Below w.heap.size w w'

set_option maxRecDepth 10000 in
set_option maxHeartbeats 4000000 in
theorem told_any {w0 w : World} {F : Nat → Prop} {p : Nat} {S : List Strm} {L : List Rw} (h : KeepAt w0 w F p S L) (hg : Glob w0) (h5 : ∀ r ∈ L, r.1 ∈ five) (hr : RiseL L) (hL : L.length ≤ 40) :
    Calls Tryz.prog 15 #[.pointer (some ⟨p, 0, none⟩), .int .i64 200] w (ToldP w L) := by
  obtain ⟨i0, hi, hz0, hz1, hz2⟩ := info_parts Tryz.info38
  have HH := hide h
  have HG := hide hg
  have H5 := hide h5
  have HR := hide hr
  clear h hg h5 hr
  go_enter Tryz.func15, Tryz.ntmps15
  go_wp2_with fail
  go_loopw [6, 7] (fun v tv wr => ∃ j : Nat, j ≤ 25 ∧ tv = .int .i64 (8 * (j : Int)) ∧ wr.ownsRow w.heap.size 38 3 v (winL 0 (8 * (j : Int)) L).length ((winL 0 (8 * (j : Int)) L).flatMap cellsR) ∧ Hid (Below w.heap.size w wr)) (fun _ tv _ => 200 - (intOf tv).toNat)
  case atStart => exact ⟨0, by omega, rfl, by rw [show (8 * ((0 : Nat) : Int)) = 0 from rfl, win_none 0 (unhide HR)]; exact World.ownsRow_nil _ _ _ _, hide (Below.refl _ _)⟩
  case round =>
    obtain ⟨j, hj, rfl, hown, HBR⟩ := hrel
    by_cases hlt : j < 25
    · have hkeep := (unhide HH).below (unhide HBR)
      obtain ⟨hE, hA⟩ := ev_rows (fr := 8 * (j : Int)) (tt := 8 * (j : Int) + 8) (lim := 50) (bw := false) (unhide H5) (by omega) (by omega) (by omega) (by omega) (by omega)
      have hkr := krows_any evQ (8 * (j : Int)) (8 * (j : Int) + 8) 50 false hkeep (by decide) (unhide HG)
      have hwl := win_len (8 * (j : Int)) (8 * (j : Int) + 8) L
      have hwl0 := win_len 0 (8 * (j : Int)) L
      have hA2 : rowsA evQ (8 * (j : Int)) (8 * (j : Int) + 8) 50 false L = winL (8 * (j : Int)) (8 * (j : Int) + 8) L := by
        rw [hA]
        exact List.take_of_length_le (by show (winL _ _ L).length ≤ 50; omega)
      rw [hE, hA2] at hkr
      have HAP := hide (win_app (a := 0) (b := 8 * (j : Int)) (c := 8 * (j : Int) + 8) (by omega) (by omega) (unhide HR))
      have HM := hide (show min (8 * (j : Int) + 8) 200 = 8 * (j : Int) + 8 by omega)
      have hszr := (unhide HBR).size
      clear hkeep hE hA hA2
      unfold evQ at hkr
      generalize winL (8 * (j : Int)) (8 * (j : Int) + 8) L = R at *
      go_wp2_with fail
      rw [unhide HM]
      refine hkr.mono ?_
      rintro e w2 ⟨v2, rfl, hown2, hb2⟩
      clear hkr
      have hsz2 := hb2.size
      have rowO : w2.ownsRow w.heap.size 38 3 u6 _ _ := ownsRow_same hown fun b hb' => hb2.block b (ownsRow_type hown hb').1
      have HBW := hide ((unhide HBR).trans (hb2.mono hszr))
      obtain ⟨aR, cR, rfl, -, -, nilR, aoR, cellR, -⟩ := owns_form hown2
      have HNR := hide nilR
      have HCR := hide (show ∀ a, aR = some a → ∀ j u, (R.flatMap cellsR)[j]? = some u → w2.cell? (a.add j) = some u from fun a ha => cells_of_row (aoR a ha).1 (aoR a ha).2.1 (cellR a ha))
      obtain ⟨aO, cO, rfl, -, -, -, -, -, -⟩ := owns_form rowO
      have hRl := flat3_len R
      clear hown hown2 hb2 nilR aoR cellR
      generalize winL 0 (8 * (j : Int)) L = O at *
      go_wp2_with (at_builtin; refine wpList_append_at _ rfl _ _ 28 rfl w.heap.size 38 i0 _ 3 40 Tryz.underlying28 hi hz0 hz1 hz2 rfl (by decide) _ _ _ rfl rowO aR R.length cR (R.flatMap cellsR) rfl hRl (unhide HNR) (unhide HCR) (flat3_one _) (by unfold maxLen; omega) (by omega) (by omega) ?_; intro v6 w6 hown6 hgrow6 hwh6)
      go_roundw
      case rel =>
        refine ⟨j + 1, by omega, by go_num, ?_, hide ((unhide HBW).grown hgrow6 (unhide HBW).size (fun k hk => (rowO.lt k hk).1))⟩
        rw [show (8 * ((j + 1 : Nat) : Int)) = 8 * (j : Int) + 8 by omega, ← unhide HAP, List.flatMap_append, List.length_append]
        exact hown6
      case measure => simp [intOf]; omega
    · have hj25 : j = 25 := by omega
      subst hj25
      have HF := hide (show ToldP w L (.returned (.tuple #[u6, .bool true])) wr from ⟨_, rfl, by rw [show (8 * ((25 : Nat) : Int)) = 200 from rfl] at hown; exact hown, unhide HBR⟩)
      go_wp2_with fail
      go_ret2
      exact unhide HF

end Go.Proofs.YtbljamcdaoofbaaGreatDoor

/- The document's first two examples, as loamkeep tries them. -/
namespace Go.Proofs.YtbljamcdaoofbaaGreatDoor
open Go.RowKit

def webA : List UInt8 := [97, 112, 112, 61, 119, 101, 98, 44, 122, 111, 110, 101, 61, 97]
def webB : List UInt8 := [97, 112, 112, 61, 119, 101, 98, 44, 122, 111, 110, 101, 61, 98]
def dbL : List UInt8 := [97, 112, 112, 61, 100, 98]
def badL : List UInt8 := [122, 111, 110, 101, 61, 97, 44, 97, 112, 112, 61, 119, 101, 98]
def get7 : List UInt8 := [103, 101, 116, 32, 55]
def put12 : List UInt8 := [112, 117, 116, 32, 49, 50]
def t12 : List UInt8 := [49, 50]
def m4 : List UInt8 := [45, 52]

def exS : List Strm := [(webA, 9), (webB, 5), (dbL, 3)]
def exL : List Rw := [(webA, 5, get7), (webB, 5, put12), (webA, 9, t12), (dbL, 3, m4)]

theorem ex1 : pushR [] [] webA 5 get7 = (0, [(webA, 5)], [(webA, 5, get7)]) := by kernel_rfl
theorem ex2 : pushR [(webA, 5)] [(webA, 5, get7)] webB 5 put12 = (0, [(webA, 5), (webB, 5)], [(webA, 5, get7), (webB, 5, put12)]) := by kernel_rfl
theorem ex3 : pushR [(webA, 5), (webB, 5)] [(webA, 5, get7), (webB, 5, put12)] webA 9 t12 = (0, [(webA, 9), (webB, 5)], [(webA, 5, get7), (webB, 5, put12), (webA, 9, t12)]) := by kernel_rfl
theorem ex4 : pushR [(webA, 9), (webB, 5)] [(webA, 5, get7), (webB, 5, put12), (webA, 9, t12)] dbL 3 m4 = (0, exS, exL) := by kernel_rfl
theorem ex5 : pushR exS exL dbL 2 [] = (4, exS, exL) := by kernel_rfl
theorem ex6 : pushR exS exL badL 9 [] = (1, exS, exL) := by kernel_rfl

def ExP (w : World) (e : Ending) (w' : World) : Prop := e = .returned (.pointer (some ⟨w.heap.size, 0, none⟩)) ∧ ∃ F, KeepAt w w' F w.heap.size exS exL

set_option maxRecDepth 10000 in
set_option maxHeartbeats 2000000 in
theorem example_any (w : World) : Calls Tryz.prog 35 #[] w (ExP w) := by
  go_enter Tryz.func35, Tryz.ntmps35
  go_wp2_with fail
  refine (knew_any w).mono ?_
  rintro e w1 ⟨rfl, hk1⟩
  have hp1 := kpush_any webA get7 5 hk1 (by decide) (by decide)
  clear hk1
  go_wp2_with fail
  refine hp1.mono ?_
  rintro e w2 ⟨rfl, F2, hk2, -, -⟩
  rw [ex1] at hk2 ⊢
  have hp2 := kpush_any webB put12 5 hk2 (by decide) (by decide)
  clear hk2 hp1
  go_wp2_with fail
  refine hp2.mono ?_
  rintro e w3 ⟨rfl, F3, hk3, -, -⟩
  rw [ex2] at hk3 ⊢
  have hp3 := kpush_any webA t12 9 hk3 (by decide) (by decide)
  clear hk3 hp2
  go_wp2_with fail
  refine hp3.mono ?_
  rintro e w4 ⟨rfl, F4, hk4, -, -⟩
  rw [ex3] at hk4 ⊢
  have hp4 := kpush_any dbL m4 3 hk4 (by decide) (by decide)
  clear hk4 hp3
  go_wp2_with fail
  refine hp4.mono ?_
  rintro e w5 ⟨rfl, F5, hk5, -, -⟩
  rw [ex4] at hk5 ⊢
  have hp5 := kpush_any dbL [] 2 hk5 (by decide) (by decide)
  clear hk5 hp4
  go_wp2_with fail
  refine hp5.mono ?_
  rintro e w6 ⟨rfl, F6, hk6, -, -⟩
  rw [ex5] at hk6 ⊢
  have hp6 := kpush_any badL [] 9 hk6 (by decide) (by decide)
  clear hk6 hp5
  go_wp2_with fail
  refine hp6.mono ?_
  rintro e w7 ⟨rfl, F7, hk7, -, -⟩
  rw [ex6] at hk7 ⊢
  have HF := hide (show ExP w (.returned (.pointer (some ⟨w.heap.size, 0, none⟩))) w7 from ⟨rfl, F7, hk7⟩)
  clear hk7 hp6
  go_wp2_with fail
  go_ret
  exact unhide HF

def q1 : List UInt8 := [123, 97, 112, 112, 61, 34, 119, 101, 98, 34, 125]
def q2 : List UInt8 := [123, 97, 112, 112, 61, 34, 119, 101, 98, 34, 125, 32, 124, 61, 32, 34, 49, 34]
def q3 : List UInt8 := [123, 97, 112, 112, 32, 61, 32, 119, 101, 98, 125]

theorem f1 : rowsE q1 0 100 10 = (0, 0) ∧ rowsA q1 0 100 10 false exL = [(webA, 5, get7), (webB, 5, put12), (webA, 9, t12)] := by
  unfold rowsA rowsE
  rw [parseF_eq]
  exact ⟨by kernel_rfl, by kernel_rfl⟩
theorem f2 : rowsE q2 0 100 1 = (0, 0) ∧ rowsA q2 0 100 1 true exL = [(webA, 9, t12)] := by
  unfold rowsA rowsE
  rw [parseF_eq]
  exact ⟨by kernel_rfl, by kernel_rfl⟩
theorem f3 : rowsE q3 0 100 1 = (8, 7) := by
  unfold rowsE
  rw [parseF_eq]
  kernel_rfl

set_option maxRecDepth 10000 in
set_option maxHeartbeats 2000000 in
theorem finding_any {w : World} (hg : Glob w) : Calls Tryz.prog 13 #[] w fun e w' => e = .returned (.bool true) ∧ Below w.heap.size w w' := by
  have HG := hide hg
  clear hg
  go_enter Tryz.func13, Tryz.ntmps13
  go_wp2_with fail
  refine (example_any w).mono ?_
  rintro e w1 ⟨rfl, F, hk⟩
  have h1 := krows_any q1 0 100 10 false hk (by decide) (unhide HG)
  rw [f1.1, f1.2] at h1
  have HK := hide hk
  clear hk
  go_wp2_with fail
  refine h1.mono ?_
  rintro e w2 ⟨v1, rfl, hown1, hb1⟩
  have h2 := krows_any q2 0 100 1 true ((unhide HK).below hb1) (by decide) (unhide HG)
  rw [f2.1, f2.2] at h2
  have HB1 := hide hb1
  clear hb1 h1
  go_wp2_with fail
  refine h2.mono ?_
  rintro e w3 ⟨v2, rfl, hown2, hb2⟩
  have h3 := krows_any q3 0 100 1 true (((unhide HK).below (unhide HB1)).below hb2) (by decide) (unhide HG)
  rw [f3] at h3
  have HB2 := hide hb2
  clear hb2 h2
  go_wp2_with fail
  refine h3.mono ?_
  rintro e w4 ⟨v3, rfl, -, hb3⟩
  have hfin : Below w.heap.size w w4 := (((unhide HK).below (unhide HB1)).below (unhide HB2)).below hb3 |>.bel
  have r1 : w4.ownsRow w1.heap.size 38 3 v1 3 _ := ownsRow_same hown1 fun b hb' => by
    have h1 := (ownsRow_type hown1 hb').1
    rw [hb3.block b (Nat.lt_of_lt_of_le h1 (unhide HB2).size), (unhide HB2).block b h1]
  have r2 : w4.ownsRow w2.heap.size 38 3 v2 1 _ := ownsRow_same hown2 fun b hb' => hb3.block b (ownsRow_type hown2 hb').1
  obtain ⟨g1, c1, rfl, -, -, -, -, k1, -⟩ := owns_open r1 (by omega)
  obtain ⟨g2, c2, rfl, -, -, -, -, k2, -⟩ := owns_open r2 (by omega)
  have a3 : w4.cell? ⟨g1, 3, none⟩ = some (SV webB) := k1 3 (by omega)
  have a4 : w4.cell? ⟨g1, 4, none⟩ = some (.int .i64 5) := k1 4 (by omega)
  have a5 : w4.cell? ⟨g1, 5, none⟩ = some (SV put12) := k1 5 (by omega)
  have b0 : w4.cell? ⟨g2, 0, none⟩ = some (SV webA) := k2 0 (by omega)
  have b1 : w4.cell? ⟨g2, 1, none⟩ = some (.int .i64 9) := k2 1 (by omega)
  have b2 : w4.cell? ⟨g2, 2, none⟩ = some (SV t12) := k2 2 (by omega)
  have HFI := hide hfin
  clear hown1 hown2 hb3 h3 k1 k2 hfin r1 r2
  unfold webA webB put12 t12 at *
  go_wp2_with fail
  go_ret
  exact ⟨rfl, unhide HFI⟩

end Go.Proofs.YtbljamcdaoofbaaGreatDoor
