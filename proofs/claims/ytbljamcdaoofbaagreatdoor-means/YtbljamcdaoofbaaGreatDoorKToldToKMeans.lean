/- Texts KTold, KFind, KMsr, KMeans, joined. -/
import Derived.Test.YtbljamcdaoofbaaGreatDoorKFillToFloatDiv
import Derived.Test.YtbljamcdaoofbaaGreatDoorPMAllToKMean
/- loamkeep's told: all rows, window by window. -/
namespace Go.Proofs.YtbljamcdaoofbaaGreatDoor
open Go.RowKit

theorem win_none (a : Int) {L : List Rw} (h : RiseL L) : winL a a L = [] := by
  rw [List.eq_nil_iff_forall_not_mem]
  intro x hx
  have := (((win_spec a a h).2.2 x).1 hx).2
  unfold inW at this
  simp only [Bool.and_eq_true, decide_eq_true_eq] at this
  omega

theorem cells_of_row {w : World} {a : Addr} {R : List Rw} (h1 : a.off = 0) (h2 : a.spot = none) (h : ∀ j, j < R.length * 3 → w.cell? ⟨a.block, j, none⟩ = (R.flatMap cellsR)[j]?) : ∀ j u, (R.flatMap cellsR)[j]? = some u → w.cell? (a.add j) = some u := by
  intro j u hj
  obtain ⟨g, o, s⟩ := a
  simp only at h1 h2 h
  subst h1 h2
  have hl := (List.getElem?_eq_some_iff.1 hj).1
  rw [flat3_len] at hl
  rw [addr_add, Nat.zero_add, h j hl]
  exact hj

def ToldP (w : World) (L : List Rw) (e : Ending) (w' : World) : Prop :=
  ∃ v, e = .returned (.tuple #[v, .bool true]) ∧ w'.ownsRow w.heap.size 38 3 v (winL 0 200 L).length ((winL 0 200 L).flatMap cellsR) ∧ Below w.heap.size w w'

set_option maxRecDepth 10000 in
set_option maxHeartbeats 4000000 in
theorem told_any {w0 w : World} {F : Nat → Prop} {p : Nat} {S : List Strm} {L : List Rw} (h : KeepAt w0 w F p S L) (hg : Glob w0) (h5 : ∀ r ∈ L, r.1 ∈ five) (hr : RiseL L) (hL : L.length ≤ 40) :
    Calls Tryz.prog 15 #[.pointer (some ⟨p, 0, none⟩), .int .i64 200] w (ToldP w L) := by
  obtain ⟨i0, hi, hz0, hz1, hz2⟩ := info_parts Tryz.info38
  have HH := hide h
  have HG := hide hg
  have H5 := hide h5
  have HR := hide hr
  clear h hg h5 hr
  go_enter Tryz.func15, Tryz.ntmps15
  go_wp2_with fail
  go_loopw [6, 7] (fun v tv wr => ∃ j : Nat, j ≤ 25 ∧ tv = .int .i64 (8 * (j : Int)) ∧ wr.ownsRow w.heap.size 38 3 v (winL 0 (8 * (j : Int)) L).length ((winL 0 (8 * (j : Int)) L).flatMap cellsR) ∧ Hid (Below w.heap.size w wr)) (fun _ tv _ => 200 - (intOf tv).toNat)
  case atStart => exact ⟨0, by omega, rfl, by rw [show (8 * ((0 : Nat) : Int)) = 0 from rfl, win_none 0 (unhide HR)]; exact World.ownsRow_nil _ _ _ _, hide (Below.refl _ _)⟩
  case round =>
    obtain ⟨j, hj, rfl, hown, HBR⟩ := hrel
    by_cases hlt : j < 25
    · have hkeep := (unhide HH).below (unhide HBR)
      obtain ⟨hE, hA⟩ := ev_rows (fr := 8 * (j : Int)) (tt := 8 * (j : Int) + 8) (lim := 50) (bw := false) (unhide H5) (by omega) (by omega) (by omega) (by omega) (by omega)
      have hkr := krows_any evQ (8 * (j : Int)) (8 * (j : Int) + 8) 50 false hkeep (by decide) (unhide HG)
      have hwl := win_len (8 * (j : Int)) (8 * (j : Int) + 8) L
      have hwl0 := win_len 0 (8 * (j : Int)) L
      have hA2 : rowsA evQ (8 * (j : Int)) (8 * (j : Int) + 8) 50 false L = winL (8 * (j : Int)) (8 * (j : Int) + 8) L := by
        rw [hA]
        exact List.take_of_length_le (by show (winL _ _ L).length ≤ 50; omega)
      rw [hE, hA2] at hkr
      have HAP := hide (win_app (a := 0) (b := 8 * (j : Int)) (c := 8 * (j : Int) + 8) (by omega) (by omega) (unhide HR))
      have HM := hide (show min (8 * (j : Int) + 8) 200 = 8 * (j : Int) + 8 by omega)
      have hszr := (unhide HBR).size
      clear hkeep hE hA hA2
      unfold evQ at hkr
      generalize winL (8 * (j : Int)) (8 * (j : Int) + 8) L = R at *
      go_wp2_with fail
      rw [unhide HM]
      refine hkr.mono ?_
      rintro e w2 ⟨v2, rfl, hown2, hb2⟩
      clear hkr
      have hsz2 := hb2.size
      have rowO : w2.ownsRow w.heap.size 38 3 u6 _ _ := ownsRow_same hown fun b hb' => hb2.block b (ownsRow_type hown hb').1
      have HBW := hide ((unhide HBR).trans (hb2.mono hszr))
      obtain ⟨aR, cR, rfl, -, -, nilR, aoR, cellR, -⟩ := owns_form hown2
      have HNR := hide nilR
      have HCR := hide (show ∀ a, aR = some a → ∀ j u, (R.flatMap cellsR)[j]? = some u → w2.cell? (a.add j) = some u from fun a ha => cells_of_row (aoR a ha).1 (aoR a ha).2.1 (cellR a ha))
      obtain ⟨aO, cO, rfl, -, -, -, -, -, -⟩ := owns_form rowO
      have hRl := flat3_len R
      clear hown hown2 hb2 nilR aoR cellR
      generalize winL 0 (8 * (j : Int)) L = O at *
      go_wp2_with (at_builtin; refine wpList_append_at _ rfl _ _ 28 rfl w.heap.size 38 i0 _ 3 40 Tryz.underlying28 hi hz0 hz1 hz2 rfl (by decide) _ _ _ rfl rowO aR R.length cR (R.flatMap cellsR) rfl hRl (unhide HNR) (unhide HCR) (flat3_one _) (by unfold maxLen; omega) (by omega) (by omega) ?_; intro v6 w6 hown6 hgrow6 hwh6)
      go_roundw
      case rel =>
        refine ⟨j + 1, by omega, by go_num, ?_, hide ((unhide HBW).grown hgrow6 (unhide HBW).size (fun k hk => (rowO.lt k hk).1))⟩
        rw [show (8 * ((j + 1 : Nat) : Int)) = 8 * (j : Int) + 8 by omega, ← unhide HAP, List.flatMap_append, List.length_append]
        exact hown6
      case measure => simp [intOf]; omega
    · have hj25 : j = 25 := by omega
      subst hj25
      have HF := hide (show ToldP w L (.returned (.tuple #[u6, .bool true])) wr from ⟨_, rfl, by rw [show (8 * ((25 : Nat) : Int)) = 200 from rfl] at hown; exact hown, unhide HBR⟩)
      go_wp2_with fail
      go_ret2
      exact unhide HF

end Go.Proofs.YtbljamcdaoofbaaGreatDoor

/- The document's first two examples, as loamkeep tries them. -/
namespace Go.Proofs.YtbljamcdaoofbaaGreatDoor
open Go.RowKit

def webA : List UInt8 := [97, 112, 112, 61, 119, 101, 98, 44, 122, 111, 110, 101, 61, 97]
def webB : List UInt8 := [97, 112, 112, 61, 119, 101, 98, 44, 122, 111, 110, 101, 61, 98]
def dbL : List UInt8 := [97, 112, 112, 61, 100, 98]
def badL : List UInt8 := [122, 111, 110, 101, 61, 97, 44, 97, 112, 112, 61, 119, 101, 98]
def get7 : List UInt8 := [103, 101, 116, 32, 55]
def put12 : List UInt8 := [112, 117, 116, 32, 49, 50]
def t12 : List UInt8 := [49, 50]
def m4 : List UInt8 := [45, 52]

def exS : List Strm := [(webA, 9), (webB, 5), (dbL, 3)]
def exL : List Rw := [(webA, 5, get7), (webB, 5, put12), (webA, 9, t12), (dbL, 3, m4)]

theorem ex1 : pushR [] [] webA 5 get7 = (0, [(webA, 5)], [(webA, 5, get7)]) := by kernel_rfl
theorem ex2 : pushR [(webA, 5)] [(webA, 5, get7)] webB 5 put12 = (0, [(webA, 5), (webB, 5)], [(webA, 5, get7), (webB, 5, put12)]) := by kernel_rfl
theorem ex3 : pushR [(webA, 5), (webB, 5)] [(webA, 5, get7), (webB, 5, put12)] webA 9 t12 = (0, [(webA, 9), (webB, 5)], [(webA, 5, get7), (webB, 5, put12), (webA, 9, t12)]) := by kernel_rfl
theorem ex4 : pushR [(webA, 9), (webB, 5)] [(webA, 5, get7), (webB, 5, put12), (webA, 9, t12)] dbL 3 m4 = (0, exS, exL) := by kernel_rfl
theorem ex5 : pushR exS exL dbL 2 [] = (4, exS, exL) := by kernel_rfl
theorem ex6 : pushR exS exL badL 9 [] = (1, exS, exL) := by kernel_rfl

def ExP (w : World) (e : Ending) (w' : World) : Prop := e = .returned (.pointer (some ⟨w.heap.size, 0, none⟩)) ∧ ∃ F, KeepAt w w' F w.heap.size exS exL

set_option maxRecDepth 10000 in
set_option maxHeartbeats 2000000 in
theorem example_any (w : World) : Calls Tryz.prog 35 #[] w (ExP w) := by
  go_enter Tryz.func35, Tryz.ntmps35
  go_wp2_with fail
  refine (knew_any w).mono ?_
  rintro e w1 ⟨rfl, hk1⟩
  have hp1 := kpush_any webA get7 5 hk1 (by decide) (by decide)
  clear hk1
  go_wp2_with fail
  refine hp1.mono ?_
  rintro e w2 ⟨rfl, F2, hk2, -, -⟩
  rw [ex1] at hk2 ⊢
  have hp2 := kpush_any webB put12 5 hk2 (by decide) (by decide)
  clear hk2 hp1
  go_wp2_with fail
  refine hp2.mono ?_
  rintro e w3 ⟨rfl, F3, hk3, -, -⟩
  rw [ex2] at hk3 ⊢
  have hp3 := kpush_any webA t12 9 hk3 (by decide) (by decide)
  clear hk3 hp2
  go_wp2_with fail
  refine hp3.mono ?_
  rintro e w4 ⟨rfl, F4, hk4, -, -⟩
  rw [ex3] at hk4 ⊢
  have hp4 := kpush_any dbL m4 3 hk4 (by decide) (by decide)
  clear hk4 hp3
  go_wp2_with fail
  refine hp4.mono ?_
  rintro e w5 ⟨rfl, F5, hk5, -, -⟩
  rw [ex4] at hk5 ⊢
  have hp5 := kpush_any dbL [] 2 hk5 (by decide) (by decide)
  clear hk5 hp4
  go_wp2_with fail
  refine hp5.mono ?_
  rintro e w6 ⟨rfl, F6, hk6, -, -⟩
  rw [ex5] at hk6 ⊢
  have hp6 := kpush_any badL [] 9 hk6 (by decide) (by decide)
  clear hk6 hp5
  go_wp2_with fail
  refine hp6.mono ?_
  rintro e w7 ⟨rfl, F7, hk7, -, -⟩
  rw [ex6] at hk7 ⊢
  have HF := hide (show ExP w (.returned (.pointer (some ⟨w.heap.size, 0, none⟩))) w7 from ⟨rfl, F7, hk7⟩)
  clear hk7 hp6
  go_wp2_with fail
  go_ret
  exact unhide HF

def q1 : List UInt8 := [123, 97, 112, 112, 61, 34, 119, 101, 98, 34, 125]
def q2 : List UInt8 := [123, 97, 112, 112, 61, 34, 119, 101, 98, 34, 125, 32, 124, 61, 32, 34, 49, 34]
def q3 : List UInt8 := [123, 97, 112, 112, 32, 61, 32, 119, 101, 98, 125]

theorem f1 : rowsE q1 0 100 10 = (0, 0) ∧ rowsA q1 0 100 10 false exL = [(webA, 5, get7), (webB, 5, put12), (webA, 9, t12)] := by
  unfold rowsA rowsE
  rw [parseF_eq]
  exact ⟨by kernel_rfl, by kernel_rfl⟩
theorem f2 : rowsE q2 0 100 1 = (0, 0) ∧ rowsA q2 0 100 1 true exL = [(webA, 9, t12)] := by
  unfold rowsA rowsE
  rw [parseF_eq]
  exact ⟨by kernel_rfl, by kernel_rfl⟩
theorem f3 : rowsE q3 0 100 1 = (8, 7) := by
  unfold rowsE
  rw [parseF_eq]
  kernel_rfl

set_option maxRecDepth 10000 in
set_option maxHeartbeats 2000000 in
theorem finding_any {w : World} (hg : Glob w) : Calls Tryz.prog 13 #[] w fun e w' => e = .returned (.bool true) ∧ Below w.heap.size w w' := by
  have HG := hide hg
  clear hg
  go_enter Tryz.func13, Tryz.ntmps13
  go_wp2_with fail
  refine (example_any w).mono ?_
  rintro e w1 ⟨rfl, F, hk⟩
  have h1 := krows_any q1 0 100 10 false hk (by decide) (unhide HG)
  rw [f1.1, f1.2] at h1
  have HK := hide hk
  clear hk
  go_wp2_with fail
  refine h1.mono ?_
  rintro e w2 ⟨v1, rfl, hown1, hb1⟩
  have h2 := krows_any q2 0 100 1 true ((unhide HK).below hb1) (by decide) (unhide HG)
  rw [f2.1, f2.2] at h2
  have HB1 := hide hb1
  clear hb1 h1
  go_wp2_with fail
  refine h2.mono ?_
  rintro e w3 ⟨v2, rfl, hown2, hb2⟩
  have h3 := krows_any q3 0 100 1 true (((unhide HK).below (unhide HB1)).below hb2) (by decide) (unhide HG)
  rw [f3] at h3
  have HB2 := hide hb2
  clear hb2 h2
  go_wp2_with fail
  refine h3.mono ?_
  rintro e w4 ⟨v3, rfl, -, hb3⟩
  have hfin : Below w.heap.size w w4 := (((unhide HK).below (unhide HB1)).below (unhide HB2)).below hb3 |>.bel
  have r1 : w4.ownsRow w1.heap.size 38 3 v1 3 _ := ownsRow_same hown1 fun b hb' => by
    have h1 := (ownsRow_type hown1 hb').1
    rw [hb3.block b (Nat.lt_of_lt_of_le h1 (unhide HB2).size), (unhide HB2).block b h1]
  have r2 : w4.ownsRow w2.heap.size 38 3 v2 1 _ := ownsRow_same hown2 fun b hb' => hb3.block b (ownsRow_type hown2 hb').1
  obtain ⟨g1, c1, rfl, -, -, -, -, k1, -⟩ := owns_open r1 (by omega)
  obtain ⟨g2, c2, rfl, -, -, -, -, k2, -⟩ := owns_open r2 (by omega)
  have a3 : w4.cell? ⟨g1, 3, none⟩ = some (SV webB) := k1 3 (by omega)
  have a4 : w4.cell? ⟨g1, 4, none⟩ = some (.int .i64 5) := k1 4 (by omega)
  have a5 : w4.cell? ⟨g1, 5, none⟩ = some (SV put12) := k1 5 (by omega)
  have b0 : w4.cell? ⟨g2, 0, none⟩ = some (SV webA) := k2 0 (by omega)
  have b1 : w4.cell? ⟨g2, 1, none⟩ = some (.int .i64 9) := k2 1 (by omega)
  have b2 : w4.cell? ⟨g2, 2, none⟩ = some (SV t12) := k2 2 (by omega)
  have HFI := hide hfin
  clear hown1 hown2 hb3 h3 k1 k2 hfin r1 r2
  unfold webA webB put12 t12 at *
  go_wp2_with fail
  go_ret
  exact ⟨rfl, unhide HFI⟩

end Go.Proofs.YtbljamcdaoofbaaGreatDoor

/- loamkeep's third example. -/
namespace Go.Proofs.YtbljamcdaoofbaaGreatDoor
open Go.RowKit

theorem two_f : fB 2 1 = 1073741824 := fB_eq (by decide) (by decide) ⟨127, 8388608, 1, by decide, by decide, by decide, by decide, by decide⟩
theorem one_f : fB 1 1 = 1065353216 := fB_eq (by decide) (by decide) ⟨126, 8388608, 1, by decide, by decide, by decide, by decide, by decide⟩
theorem third_f : fB 2 3 = 1059760811 := fB_eq (by decide) (by decide) ⟨125, 33554432, 3, by decide, by decide, by decide, by decide, by decide⟩

def mq1 : List UInt8 := [99, 111, 117, 110, 116, 40, 123, 97, 112, 112, 61, 34, 119, 101, 98, 34, 125, 91, 49, 48, 93, 41, 32, 98, 121, 32, 122, 111, 110, 101]
def mq2 : List UInt8 := [114, 97, 116, 101, 40, 123, 97, 112, 112, 61, 34, 119, 101, 98, 34, 125, 91, 51, 93, 41]

def mweb : Mch := ⟨[97, 112, 112], [119, 101, 98], false⟩
theorem mp1 : parseL mq1 = (30, true, ⟨[mweb], [], countT, 10, [122, 111, 110, 101]⟩) := by
  rw [parseF_eq]
  kernel_rfl
theorem mp2 : parseL mq2 = (20, true, ⟨[mweb], [], rateT, 3, []⟩) := by
  rw [parseF_eq]
  kernel_rfl

theorem g1 : measE mq1 9 = (0, 0) ∧ measA mq1 9 exL = [([97], 1073741824), ([98], 1065353216)] := by
  have hE : measE mq1 9 = (0, 0) := by
    unfold measE
    rw [parseF_eq]
    kernel_rfl
  refine ⟨hE, ?_⟩
  rw [measA_ask hE, mp1, ← two_f, ← one_f]
  have hT : askQ ⟨[mweb], [], countT, 10, [122, 111, 110, 101]⟩ 9 exL = [(webA, 5, get7), (webB, 5, put12), (webA, 9, t12)] := by kernel_rfl
  simp only
  rw [hT]
  have hK : keysL [122, 111, 110, 101] [(webA, 5, get7), (webB, 5, put12), (webA, 9, t12)] = [[97], [98]] := by kernel_rfl
  rw [hK]
  have hA : grpL [122, 111, 110, 101] [(webA, 5, get7), (webB, 5, put12), (webA, 9, t12)] [97] = [(webA, 5, get7), (webA, 9, t12)] := by kernel_rfl
  have hB : grpL [122, 111, 110, 101] [(webA, 5, get7), (webB, 5, put12), (webA, 9, t12)] [98] = [(webB, 5, put12)] := by kernel_rfl
  simp [smpsL, hA, hB, grpS, smpS]

theorem g2 : measE mq2 5 = (0, 0) ∧ measA mq2 5 exL = [([], 1059760811)] := by
  have hE : measE mq2 5 = (0, 0) := by
    unfold measE
    rw [parseF_eq]
    kernel_rfl
  refine ⟨hE, ?_⟩
  rw [measA_ask hE, mp2, ← third_f]
  have hT : askQ ⟨[mweb], [], rateT, 3, []⟩ 5 exL = [(webA, 5, get7), (webB, 5, put12)] := by kernel_rfl
  simp only
  rw [hT]
  have hK : keysL [] [(webA, 5, get7), (webB, 5, put12)] = [[]] := by kernel_rfl
  rw [hK]
  have hA : grpL [] [(webA, 5, get7), (webB, 5, put12)] [] = [(webA, 5, get7), (webB, 5, put12)] := by kernel_rfl
  have hne : rateT ≠ countT := by decide
  simp [smpsL, hA, grpS, smpS, hne]

theorem g3 : measE q1 5 = (9, 0) := by
  unfold measE
  rw [parseF_eq]
  kernel_rfl

set_option maxRecDepth 10000 in
set_option maxHeartbeats 2000000 in
theorem measuring_any {w : World} (hg : Glob w) : Calls Tryz.prog 24 #[] w fun e w' => e = .returned (.bool true) ∧ Below w.heap.size w w' := by
  have HG := hide hg
  clear hg
  go_enter Tryz.func24, Tryz.ntmps24
  go_wp2_with fail
  refine (example_any w).mono ?_
  rintro e w1 ⟨rfl, F, hk⟩
  have h1 := kmeas_any mq1 9 hk (by decide) (unhide HG)
  rw [g1.1, g1.2] at h1
  have HK := hide hk
  clear hk
  go_wp2_with fail
  refine h1.mono ?_
  rintro e w2 ⟨v1, rfl, hown1, hb1⟩
  have h2 := kmeas_any mq2 5 ((unhide HK).below hb1) (by decide) (unhide HG)
  rw [g2.1, g2.2] at h2
  have HB1 := hide hb1
  clear hb1 h1
  go_wp2_with fail
  refine h2.mono ?_
  rintro e w3 ⟨v2, rfl, hown2, hb2⟩
  have h3 := kmeas_any q1 5 (((unhide HK).below (unhide HB1)).below hb2) (by decide) (unhide HG)
  rw [g3] at h3
  have HB2 := hide hb2
  clear hb2 h2
  go_wp2_with fail
  refine h3.mono ?_
  rintro e w4 ⟨v3, rfl, -, hb3⟩
  have hfin : Below w.heap.size w w4 := (((unhide HK).below (unhide HB1)).below (unhide HB2)).below hb3 |>.bel
  have r1 : w4.ownsRow w1.heap.size 57 2 v1 2 _ := ownsRow_same hown1 fun b hb' => by
    have h1 := (ownsRow_type hown1 hb').1
    rw [hb3.block b (Nat.lt_of_lt_of_le h1 (unhide HB2).size), (unhide HB2).block b h1]
  have r2 : w4.ownsRow w2.heap.size 57 2 v2 1 _ := ownsRow_same hown2 fun b hb' => hb3.block b (ownsRow_type hown2 hb').1
  obtain ⟨x1, c1, rfl, -, -, -, -, k1, -⟩ := owns_open r1 (by omega)
  obtain ⟨x2, c2, rfl, -, -, -, -, k2, -⟩ := owns_open r2 (by omega)
  have a0 : w4.cell? ⟨x1, 0, none⟩ = some (SV [97]) := k1 0 (by omega)
  have a1 : w4.cell? ⟨x1, 1, none⟩ = some (.int .i64 1073741824) := k1 1 (by omega)
  have a2 : w4.cell? ⟨x1, 2, none⟩ = some (SV [98]) := k1 2 (by omega)
  have a3 : w4.cell? ⟨x1, 3, none⟩ = some (.int .i64 1065353216) := k1 3 (by omega)
  have b1 : w4.cell? ⟨x2, 1, none⟩ = some (.int .i64 1059760811) := k2 1 (by omega)
  have HFI := hide hfin
  clear hown1 hown2 hb3 h3 k1 k2 hfin r1 r2
  go_wp2_with fail
  go_ret
  exact ⟨rfl, unhide HFI⟩

end Go.Proofs.YtbljamcdaoofbaaGreatDoor

/- loamkeep's Means. -/
namespace Go.Proofs.YtbljamcdaoofbaaGreatDoor
open Go.RowKit

theorem kpush_ok {w0 w : World} {F : Nat → Prop} {p : Nat} {S S' : List Strm} {L L' : List Rw} (l x : List UInt8) (t : Int) (h : KeepAt w0 w F p S L) (hl : l.length ≤ 1048576) (hx : x.length ≤ 1048576) (hp : pushR S L l t x = (0, S', L')) :
    Calls Tryz.prog 23 #[.pointer (some ⟨p, 0, none⟩), .string ⟨l.toArray⟩, .int .i64 t, .string ⟨x.toArray⟩] w fun e w' => e = .returned (.int .i64 0) ∧ ∃ F', KeepAt w0 w' F' p S' L' := by
  refine (kpush_any l x t h hl hx).mono ?_
  rintro e w' ⟨rfl, F', hk, -, -⟩
  rw [hp] at hk ⊢
  exact ⟨rfl, F', hk⟩

set_option maxRecDepth 10000 in
set_option maxHeartbeats 4000000 in
theorem means_any {w : World} (A B C D : Int) (ha : -9223372036854775808 ≤ A ∧ A ≤ 9223372036854775807) (hb : -9223372036854775808 ≤ B ∧ B ≤ 9223372036854775807) (hc : -9223372036854775808 ≤ C ∧ C ≤ 9223372036854775807) (hd : -9223372036854775808 ≤ D ∧ D ≤ 9223372036854775807) (hg : Glob w) :
    Calls Tryz.prog 11 #[.int .i64 A, .int .i64 B, .int .i64 C, .int .i64 D] w fun e w' => e = .returned (.bool true) ∧ Below w.heap.size w w' := by
  have hpA := fun W => kpick_any A 9000 W ha.1 ha.2 (by omega) (by omega)
  have hpB := fun W => kpick_any B 20 W hb.1 hb.2 (by omega) (by omega)
  have hpC := fun W => kpick_any C 20 W hc.1 hc.2 (by omega) (by omega)
  have hpD := fun W => kpick_any D 10 W hd.1 hd.2 (by omega) (by omega)
  have hn := pickN_lt A (n := 9000) (by omega)
  have hk := pickN_lt B (n := 20) (by omega)
  have hc2 := pickN_lt C (n := 20) (by omega)
  have hr2 := pickN_lt D (n := 10) (by omega)
  generalize pickN A 9000 = n at *
  generalize pickN B 20 = k at *
  generalize pickN C 20 = c0 at *
  generalize pickN D 10 = r0 at *
  have HG := hide hg
  clear ha hb hc hd hg
  go_enter Tryz.func11, Tryz.ntmps11
  go_wp2_with fail
  refine (measuring_any (unhide HG)).mono ?_
  rintro e w1 ⟨rfl, hb1⟩
  have HB1 := hide hb1
  clear hb1
  go_wp2_with fail
  refine (knew_any w1).mono ?_
  rintro e w2 ⟨rfl, hk2⟩
  have HK2 := hide (hk2.rebase (unhide HB1))
  clear hk2
  generalize w1.heap.size = p at *
  go_wp2_with fail
  refine (hpA _).mono ?_
  rintro e w' ⟨rfl, hww⟩
  rw [hww]
  clear hww w' hpA
  go_wp2_with fail
  refine (hpB _).mono ?_
  rintro e w' ⟨rfl, hww⟩
  rw [hww]
  clear hww w' hpB
  go_wp2_with fail
  rename World => wA
  go_loopw [13, 14, 15, 16] (fun i _ _ _ wr => ∃ j : Nat, j ≤ k ∧ i = .int .i64 j ∧ Hid (∃ F, KeepAt w wr F p (sA j) (mA n j))) (fun i _ _ _ _ => k - (intOf i).toNat)
  case atStart => exact ⟨0, Nat.zero_le _, rfl, hide ⟨_, unhide HK2⟩⟩
  case round =>
    clear HK2
    obtain ⟨j, hj, rfl, HK⟩ := hrel
    by_cases hlt : j < k
    · have hji : (j : Int) < (k : Int) := by omega
      have hlen := mA_len n j
      obtain ⟨-, -, -, l1⟩ := dig_num (n := n + j + 1000) (by omega)
      obtain ⟨-, -, -, l2⟩ := dig_num (n := n + 1000 - j) (by omega)
      obtain ⟨F0, hk0⟩ := unhide HK
      have hd1 := fun W => digits_any (n + j + 1000) W (by omega)
      have hd2 := fun W => digits_any (n + 1000 - j) W (by omega)
      have e1 : (n : Int) + (j : Int) + 1000 = ((n + j + 1000 : Nat) : Int) := by omega
      have e2 : (n : Int) - (j : Int) + 1000 = ((n + 1000 - j : Nat) : Int) := by omega
      have HS := hide (mA_succ n j)
      unfold threeM at HS
      clear HK
      generalize digL (n + j + 1000) = x1 at *
      generalize digL (n + 1000 - j) = x2 at *
      have HE1 := hide e1
      have HE2 := hide e2
      have HK0 := hide hk0
      clear e1 e2 hk0
      go_wp2_with fail
      rw [unhide HE1]
      refine (hd1 _).mono ?_
      rintro e w3 ⟨rfl, hb3⟩
      clear hd1
      have hk3 := (unhide HK0).below hb3
      clear hb3 HK0
      have hq1 := kpush_ok abL x1 5 hk3 (by decide) (by omega) (push_a (by omega) (by omega))
      clear hk3
      go_wp2_with fail
      refine hq1.mono ?_
      rintro e w4 ⟨rfl, F4, hk4⟩
      clear hq1
      have HK4 := hide hk4
      clear hk4
      go_wp2_with fail
      rw [unhide HE2]
      refine (hd2 _).mono ?_
      rintro e w5 ⟨rfl, hb5⟩
      clear hd2
      have hk5 := (unhide HK4).below hb5
      clear hb5 HK4
      have hq2 := kpush_ok abL x2 5 hk5 (by decide) (by omega) (push_a (by omega) (by simp; omega))
      clear hk5
      go_wp2_with fail
      refine hq2.mono ?_
      rintro e w6 ⟨rfl, F6, hk6⟩
      clear hq2
      have hq3 := kpush_ok abL no77 5 hk6 (by decide) (by decide) (push_a (by decide) (by simp; omega))
      clear hk6
      go_wp2_with fail
      refine hq3.mono ?_
      rintro e w7 ⟨rfl, F7, hk7⟩
      clear hq3
      have HK7 := hide (show ∃ F, KeepAt w w7 F p (sA (j + 1)) (mA n (j + 1)) from ⟨F7, by
        rw [unhide HS, show sA (j + 1) = sA 1 by simp [sA]]
        have := hk7
        simp only [List.append_assoc, List.cons_append, List.nil_append] at this
        exact this⟩)
      clear hk7
      go_wp2_with fail
      go_roundw
      case rel => exact ⟨j + 1, by omega, by go_num, HK7⟩
      case measure => simp [intOf]; omega
    · have hjk : j = k := by omega
      subst hjk
      obtain ⟨F0, hk0⟩ := unhide HK
      have hone := one_any qMa 5 _ hk0 (by decide) (unhide HG) eMa (oneMa n j (by omega) (by omega))
      have HK0 := hide hk0
      clear HK hk0 hlt hj
      have hv : ((if j = 0 then 0 else n + 1000 : Nat) : Int) = if (j : Int) = 0 then 0 else (n : Int) + 1000 := by
        by_cases h : j = 0
        · simp [h]
        · have : ¬ (j : Int) = 0 := by omega
          simp [h]
      have HV := hide hv
      clear hv
      generalize (if j = 0 then 0 else n + 1000 : Nat) = mv at *
      go_wp2_with fail
      refine hone.mono ?_
      rintro e w8 ⟨rfl, hb8⟩
      clear hone
      have HK8 := hide (show ∃ F t0, KeepAt w w8 F p (sC j t0) (mA n j ++ mB (c0 + 1) (1 - 1)) ∧ ∀ x, t0 = some x → x ≤ ((1 : Nat) : Int) from ⟨F0, none, by
        have := (unhide HK0).below hb8
        simpa [sC, mB] using this, fun x hx => by cases hx⟩)
      clear hb8 HK0
      have hcase : ((j : Int) == 0) = true ∧ (mv : Int) = 0 ∨ ((j : Int) == 0) = false ∧ 0 < (j : Int) ∧ (mv : Int) = (n : Int) + 1000 := by
        have := unhide HV
        by_cases h : j = 0
        · left
          refine ⟨by simp [h], ?_⟩
          rw [this, if_pos (by omega)]
        · right
          refine ⟨by simp; omega, by omega, ?_⟩
          rw [this, if_neg (by omega)]
      have hmj := mA_len n j
      clear HV
      rcases hcase with ⟨hj0, hmv⟩ | ⟨hj0, hj1, hmv⟩
      all_goals
        rw [hmv]
        clear hmv
        go_wp2_with fail
        refine (hpD _).mono ?_
        rintro e w' ⟨rfl, hww⟩
        rw [hww]
        clear hww w' hpD
        go_wp2_with fail
        refine (hpC _).mono ?_
        rintro e w' ⟨rfl, hww⟩
        rw [hww]
        clear hww w' hpC
        go_wp2_with fail
        rename World => wB
        go_loopw [20, 21, 22] (fun i _ _ wr => ∃ t : Nat, 1 ≤ t ∧ t ≤ r0 + 2 ∧ i = .int .i64 t ∧ Hid (∃ F t0, KeepAt w wr F p (sC j t0) (mA n j ++ mB (c0 + 1) (t - 1)) ∧ ∀ x, t0 = some x → x ≤ (t : Int))) (fun i _ _ _ => r0 + 2 - (intOf i).toNat)
        case atStart => exact ⟨1, by omega, by omega, rfl, HK8⟩
        case round =>
          clear HK8
          obtain ⟨t, ht1, ht2, rfl, HKt⟩ := hrel
          by_cases hlt2 : t ≤ r0 + 1
          · have hti : (t : Int) ≤ 1 + (r0 : Int) := by omega
            have hmb : (mB (c0 + 1) (t - 1)).length ≤ 200 := by
              rw [mB_len]
              exact Nat.le_trans (Nat.mul_le_mul (show t - 1 ≤ 10 by omega) (show c0 + 1 ≤ 20 by omega)) (by decide)
            go_wp2_with fail
            rename World => wC
            go_loopw [21, 22] (fun i _ wr => ∃ m : Nat, m ≤ c0 + 1 ∧ i = .int .i64 m ∧ Hid (∃ F t0, KeepAt w wr F p (sC j t0) (mA n j ++ mB (c0 + 1) (t - 1) ++ List.replicate m (cdL, (t : Int), [120])) ∧ ∀ x, t0 = some x → x ≤ (t : Int))) (fun i _ _ => c0 + 1 - (intOf i).toNat)
            case atStart => exact ⟨0, by omega, rfl, hide (by rw [List.replicate_zero, List.append_nil]; exact unhide HKt)⟩
            case round =>
              clear HKt
              obtain ⟨m, hm, rfl, HKm⟩ := hrel
              by_cases hlt3 : m < c0 + 1
              · have hmi : (m : Int) < 1 + (c0 : Int) := by omega
                obtain ⟨Fm, t0, hkm, hx0⟩ := unhide HKm
                have hq := kpush_ok cdL [120] t hkm (by decide) (by decide) (push_c hx0 (by omega) (by omega) (by simp; omega))
                clear HKm hkm hx0
                go_wp2_with fail
                refine hq.mono ?_
                rintro e w9 ⟨rfl, F9, hk9⟩
                have HK9 := hide (show ∃ F t0, KeepAt w w9 F p (sC j t0) (mA n j ++ mB (c0 + 1) (t - 1) ++ List.replicate (m + 1) (cdL, (t : Int), [120])) ∧ ∀ x, t0 = some x → x ≤ (t : Int) from ⟨F9, _, by
                  rw [List.replicate_succ', ← List.append_assoc]
                  exact hk9, fun x hx => by cases hx; exact Int.le_refl _⟩)
                clear hq hk9
                go_wp2_with fail
                go_roundw
                case rel => exact ⟨m + 1, by omega, by go_num, HK9⟩
                case measure => simp [intOf]; omega
              · have hmi : ¬ (m : Int) < 1 + (c0 : Int) := by omega
                have hmc : m = c0 + 1 := by omega
                have HKn := hide (show ∃ F t0, KeepAt w _ F p (sC j t0) (mA n j ++ mB (c0 + 1) (t + 1 - 1)) ∧ ∀ x, t0 = some x → x ≤ ((t + 1 : Nat) : Int) from by
                  obtain ⟨Fm, t0, hkm, hx0⟩ := unhide HKm
                  refine ⟨Fm, t0, ?_, fun x hx => by have := hx0 x hx; omega⟩
                  rw [hmc] at hkm
                  obtain ⟨t', rfl⟩ : ∃ t', t = t' + 1 := ⟨t - 1, by omega⟩
                  rw [show t' + 1 + 1 - 1 = t' + 1 by omega, mB_succ, ← List.append_assoc]
                  rw [show t' + 1 - 1 = t' by omega] at hkm
                  exact hkm)
                clear HKm
                go_wp2_with fail
                go_roundw
                case rel => exact ⟨t + 1, by omega, by omega, by go_num, HKn⟩
                case measure => simp [intOf]; omega
          · have hti : ¬ (t : Int) ≤ 1 + (r0 : Int) := by omega
            have htr : t = r0 + 2 := by omega
            subst htr
            obtain ⟨Ft, t0, hkt, -⟩ := unhide HKt
            rw [show r0 + 2 - 1 = r0 + 1 by omega] at hkt
            have HKx := hide hkt
            clear HKt hkt
            go_wp2_with fail
            have er : (1 : Int) + (r0 : Int) = ((r0 + 1 : Nat) : Int) := by omega
            have ec : (1 : Int) + (c0 : Int) = ((c0 + 1 : Nat) : Int) := by omega
            obtain ⟨-, -, -, dl⟩ := dig_num (n := r0 + 1) (by omega)
            have hdg := fun W => digits_any (r0 + 1) W (by omega)
            obtain ⟨x1, -⟩ := eC (kind := rateT) (r := r0 + 1) (.inl rfl) (by omega) (by omega)
            obtain ⟨x2, -⟩ := eC (kind := meanT) (r := r0 + 1) (.inr rfl) (by omega) (by omega)
            have z1 := oneC_rate n j (c0 + 1) (r0 + 1) (by omega) (by omega) (by omega)
            have z2 := oneC_mean n j (c0 + 1) (r0 + 1) (by omega) (by omega)
            have l1 := qC_len (kind := rateT) (.inl rfl) dl
            have l2 := qC_len (kind := meanT) (.inr rfl) dl
            have hq1 : (⟨#[114, 97, 116, 101, 40, 123, 99, 61, 34, 100, 34, 125, 91]⟩ : ByteArray) ++ ⟨(digL (r0 + 1)).toArray⟩ ++ ⟨#[93, 41]⟩ = ⟨(qC rateT (digL (r0 + 1))).toArray⟩ := by
              rw [show (#[114, 97, 116, 101, 40, 123, 99, 61, 34, 100, 34, 125, 91] : Array UInt8) = [114, 97, 116, 101, 40, 123, 99, 61, 34, 100, 34, 125, 91].toArray from rfl, show (#[93, 41] : Array UInt8) = [93, 41].toArray from rfl, bytes_append, bytes_append]
              rfl
            have hq2 : (⟨#[109, 101, 97, 110, 40, 123, 99, 61, 34, 100, 34, 125, 91]⟩ : ByteArray) ++ ⟨(digL (r0 + 1)).toArray⟩ ++ ⟨#[93, 41]⟩ = ⟨(qC meanT (digL (r0 + 1))).toArray⟩ := by
              rw [show (#[109, 101, 97, 110, 40, 123, 99, 61, 34, 100, 34, 125, 91] : Array UInt8) = [109, 101, 97, 110, 40, 123, 99, 61, 34, 100, 34, 125, 91].toArray from rfl, show (#[93, 41] : Array UInt8) = [93, 41].toArray from rfl, bytes_append, bytes_append]
              rfl
            rw [er, ec]
            generalize hrr : r0 + 1 = r at *
            generalize c0 + 1 = c at *
            have HX := hide (show measE (qC rateT (digL r)) r = (0, 0) ∧ measE (qC meanT (digL r)) r = (0, 0) ∧ OneA (measA (qC rateT (digL r)) r (mA n j ++ mB c r)) c ∧ OneA (measA (qC meanT (digL r)) r (mA n j ++ mB c r)) 0 ∧ (qC rateT (digL r)).length ≤ 200 ∧ (qC meanT (digL r)).length ≤ 200 from ⟨x1, x2, z1, z2, l1, l2⟩)
            have HQ1 := hide hq1
            have HQ2 := hide hq2
            clear x1 x2 z1 z2 l1 l2 hq1 hq2 er ec hti ht1 ht2 hlt2 hrr
            refine (hdg _).mono ?_
            rintro e w10 ⟨rfl, hb10⟩
            have hk10 := (unhide HKx).below hb10
            have ho1 := one_any _ r _ hk10 (unhide HX).2.2.2.2.1 (unhide HG) (unhide HX).1 (unhide HX).2.2.1
            have HK10 := hide hk10
            clear hb10 hk10 HKx
            go_wp2_with fail
            rw [unhide HQ1]
            refine ho1.mono ?_
            rintro e w11 ⟨rfl, hb11⟩
            have hk11 := (unhide HK10).below hb11
            have HK11 := hide hk11
            clear hb11 hk11 HK10 ho1 HQ1
            go_wp2_with fail
            refine (hdg _).mono ?_
            rintro e w12 ⟨rfl, hb12⟩
            have hk12 := (unhide HK11).below hb12
            have ho2 := one_any _ r _ hk12 (unhide HX).2.2.2.2.2 (unhide HG) (unhide HX).2.1 (unhide HX).2.2.2.1
            have HK12 := hide hk12
            clear hb12 hk12 HK11 hdg
            go_wp2_with fail
            rw [unhide HQ2]
            refine ho2.mono ?_
            rintro e w13 ⟨rfl, hb13⟩
            have HB13 := hide ((unhide HK12).below hb13).bel
            clear hb13 HK12 ho2 HQ2
            go_wp2_with fail
            go_ret
            exact ⟨rfl, unhide HB13⟩

theorem meansK_any {w : World} {A B C D : Int} (hg : Glob w) (ha : -9223372036854775808 ≤ A ∧ A ≤ 9223372036854775807) (hb : -9223372036854775808 ≤ B ∧ B ≤ 9223372036854775807) (hc : -9223372036854775808 ≤ C ∧ C ≤ 9223372036854775807) (hd : -9223372036854775808 ≤ D ∧ D ≤ 9223372036854775807) :
    Calls Tryz.prog 11 #[.int .i64 A, .int .i64 B, .int .i64 C, .int .i64 D] w fun e w' => e = .returned (.bool true) ∧ Below w.heap.size w w' := means_any A B C D ha hb hc hd hg

end Go.Proofs.YtbljamcdaoofbaaGreatDoor
