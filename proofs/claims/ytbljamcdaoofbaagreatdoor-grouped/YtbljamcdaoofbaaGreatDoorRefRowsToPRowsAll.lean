/- Texts RefRows, PRowsAll, joined. -/
import Derived.Test.YtbljamcdaoofbaaGreatDoorPWholeToPSwap
import Derived.Test.YtbljamcdaoofbaaGreatDoorRAskedOne
import Derived.Test.YtbljamcdaoofbaaGreatDoorPMatchToPSrcs
/- The reference's Rows. -/
namespace Go.Proofs.YtbljamcdaoofbaaGreatDoor
open Go.RowKit

theorem ordR_at (bw : Bool) (T : List Rw) (k : Nat) (h : k < T.length) : (ordR bw T)[k]'(by cases bw <;> simpa [ordR] using h) = if bw = true then T[T.length - 1 - k]'(by omega) else T[k] := by
  cases bw
  · simp [ordR]
  · simp [ordR, List.getElem_reverse]
theorem ordR_len (bw : Bool) (T : List Rw) : (ordR bw T).length = T.length := by cases bw <;> simp [ordR]

theorem rowsE_range {l : List UInt8} {fr tt lim : Int} (h1 : l.length ≤ 200) (h2 : (parseL l).2.1 = true) (h3 : (parseL l).2.2.meas = []) : rowsE l fr tt lim = if fr < 0 ∨ tt < fr ∨ 1000001 < tt then (10, 0) else if lim < 0 ∨ 50 < lim then (11, 0) else (0, 0) := by
  unfold rowsE
  rw [if_neg (by omega), if_neg (by simp [h2]), if_neg (by simp [h3])]

theorem RowsP3.er {w w' : World} {R : List Rw} {er pl er' pl' : Int} {e : Ending} (h : RowsP3 w R er pl e w') (h1 : er' = er) (h2 : pl' = pl) : RowsP3 w R er' pl' e w' := by subst h1 h2; exact h
theorem RowsP3.ers {w w' : World} {l : List UInt8} {fr tt lim : Int} {bw : Bool} {L : List Rw} {er pl : Int} (h : rowsE l fr tt lim = (er, pl)) (h0 : er ≠ 0) (hb : Below w.heap.size w w') : RowsP3 w (rowsA l fr tt lim bw L) (rowsE l fr tt lim).1 (rowsE l fr tt lim).2 (.returned (.tuple #[.slice none 0 0, .int .i64 er, .int .i64 pl])) w' := by
  have : rowsA l fr tt lim bw L = [] := by unfold rowsA; rw [h, if_neg h0]
  rw [this, h]
  exact RowsP3.no _ _ hb

set_option maxRecDepth 10000 in
set_option maxHeartbeats 4000000 in
theorem refRows_any {w : World} {F : Nat → Prop} {p : Nat} {S : List Strm} {L : List Rw} {vS vL : Value} (l : List UInt8) (fr tt lim : Int) (bw : Bool) (hr : RefAt w F p S L vS vL) (hL : L.length ≤ 300) (hf : Fine S L) (hl : l.length ≤ 1048576) :
    Calls Tryz.prog 93 #[.pointer (some ⟨p, 0, none⟩), .string ⟨l.toArray⟩, .int .i64 fr, .int .i64 tt, .int .i64 lim, .bool bw] w (RowsP3 w (rowsA l fr tt lim bw L) (rowsE l fr tt lim).1 (rowsE l fr tt lim).2) := by
  obtain ⟨i0, hi, hz0, hz1, hz2⟩ := info_parts Tryz.info38
  have HR := hide hr
  have HF := hide hf
  clear hr hf
  go_enter Tryz.func93, Tryz.ntmps93
  go_wp2_with fail
  refine (parse_any l w hl).mono ?_
  rintro e w1 ⟨hb1, hlong, hgood, hbad⟩
  have HB1 := hide hb1
  clear hb1
  by_cases h2 : 200 < l.length
  · have he := hlong h2
    subst he
    have HE := hide (show rowsE l fr tt lim = (7, 0) by unfold rowsE; rw [if_pos h2])
    clear hlong hgood hbad
    go_wp2_with fail
    go_ret3
    exact RowsP3.ers (unhide HE) (by decide) (unhide HB1)
  · have h2' : l.length ≤ 200 := by omega
    cases hp : (parseL l).2.1 with
    | false =>
      have he := hbad h2' hp
      subst he
      have HE := hide (show rowsE l fr tt lim = ((8 : Int), ((parseL l).1 : Int)) by unfold rowsE; rw [if_neg h2, if_pos hp])
      clear hlong hgood hbad
      go_wp2_with fail
      go_ret3
      exact RowsP3.ers (unhide HE) (by decide) (unhide HB1)
    | true =>
      obtain ⟨qb, vM, vF, he, hq⟩ := hgood h2' hp
      subst he
      obtain ⟨s1, s2, s3⟩ := parse_small l h2'
      have HQ := hide hq
      have HS := hide (And.intro s1 (And.intro s2 s3))
      obtain ⟨-, -, c2, -, -, -, -⟩ := rcell6 hq.block
      clear hlong hgood hbad hq s1 s2 s3
      cases hm : ((parseL l).2.2.meas == []) with
      | false =>
        have HE := hide (show rowsE l fr tt lim = (9, 0) by unfold rowsE; rw [if_neg h2, if_neg (by simp [hp]), if_pos hm])
        go_wp2_with fail
        go_ret3
        exact RowsP3.ers (unhide HE) (by decide) (unhide HB1)
      | true =>
        have hm' : (parseL l).2.2.meas = [] := by simpa using hm
        have hE := rowsE_range (fr := fr) (tt := tt) (lim := lim) h2' hp hm'
        by_cases h3 : fr < 0
        · rw [if_pos (.inl h3)] at hE
          have HE := hide hE
          clear hE
          go_wp2_with fail
          go_ret3
          exact RowsP3.ers (unhide HE) (by decide) (unhide HB1)
        · by_cases h4 : tt < fr
          · rw [if_pos (.inr (.inl h4))] at hE
            have HE := hide hE
            clear hE
            go_wp2_with fail
            go_ret3
            exact RowsP3.ers (unhide HE) (by decide) (unhide HB1)
          · by_cases h5 : 1000001 < tt
            · rw [if_pos (.inr (.inr h5))] at hE
              have HE := hide hE
              clear hE
              go_wp2_with fail
              go_ret3
              exact RowsP3.ers (unhide HE) (by decide) (unhide HB1)
            · rw [if_neg (by omega)] at hE
              by_cases h6 : lim < 0
              · rw [if_pos (.inl h6)] at hE
                have HE := hide hE
                clear hE
                go_wp2_with fail
                go_ret3
                exact RowsP3.ers (unhide HE) (by decide) (unhide HB1)
              · by_cases h7 : 50 < lim
                · rw [if_pos (.inr h7)] at hE
                  have HE := hide hE
                  clear hE
                  go_wp2_with fail
                  go_ret3
                  exact RowsP3.ers (unhide HE) (by decide) (unhide HB1)
                · rw [if_neg (by omega)] at hE
                  have HA := hide (show rowsA l fr tt lim bw L = (ordR bw (askedL (parseL l).2.2.ms (parseL l).2.2.fs fr tt L)).take lim.toNat by unfold rowsA; rw [hE, if_pos rfl])
                  have HE := hide hE
                  clear hE
                  have hr1 := (unhide HR).keep (w' := w1) (fun b hb _ => (unhide HB1).block b hb)
                  have hlen := askedL_len (parseL l).2.2.ms (parseL l).2.2.fs fr tt L
                  have has := asked_any fr tt hr1 hL (unhide HQ) (unhide HS).1 (unhide HS).2.1 (unhide HS).2.2 (fun r hr => ⟨((unhide HF).lines r hr).2, Nat.le_trans ((unhide HF).lines r hr).1 (by omega)⟩)
                  clear hr1
                  obtain ⟨n, rfl⟩ : ∃ n : Nat, lim = n := ⟨lim.toNat, by omega⟩
                  rw [Int.toNat_natCast] at HA
                  generalize askedL (parseL l).2.2.ms (parseL l).2.2.fs fr tt L = T at *
                  go_wp2_with fail
                  refine has.mono ?_
                  rintro e w2 ⟨v2, rfl, hown2, hb2⟩
                  clear has
                  have hb12 : Below w.heap.size w w2 := (unhide HB1).trans (hb2.mono (unhide HB1).size)
                  obtain ⟨aT, capT, rfl, hncT, hcmT, nilT, aoT, cellT, -⟩ := owns_form hown2
                  unfold maxLen at hcmT
                  have HNT := hide nilT
                  have HAT := hide aoT
                  have HCT := hide cellT
                  have HB2 := hide hb12
                  have hTl : T.length ≤ 300 := by omega
                  clear hown2 hb2 nilT aoT cellT hb12 HR HF HQ HS HB1
                  go_wp2_with fail
                  go_loopw [19, 20] (fun v i wr => ∃ k : Nat, k ≤ T.length ∧ k ≤ n ∧ i = .int .i64 k ∧ wr.ownsRow w2.heap.size 38 3 v k (((ordR bw T).take k).flatMap cellsR) ∧ Hid (Below w2.heap.size w2 wr)) (fun _ i _ => T.length - (intOf i).toNat)
                  case atStart => exact ⟨0, Nat.zero_le _, Nat.zero_le _, rfl, World.ownsRow_nil _ _ _ _, hide (Below.refl _ _)⟩
                  case round =>
                    obtain ⟨k, hk, hkn, rfl, hown, HBR⟩ := hrel
                    by_cases hlt : k < T.length
                    · by_cases hln : k < n
                      · obtain ⟨⟨g, o, sp⟩, rfl⟩ : ∃ a, aT = some a := by
                          cases aT with
                          | none => have := (unhide HNT rfl).1; omega
                          | some a => exact ⟨a, rfl⟩
                        obtain ⟨ho, hsp, -, hgw⟩ := unhide HAT _ rfl
                        simp only at ho hsp hgw
                        subst ho hsp
                        have hszr := (unhide HBR).size
                        have hszw := (unhide HB2).size
                        have hoa := ordR_at bw T k hlt
                        have HSN := hide (show ((ordR bw T).take (k + 1)).flatMap cellsR = ((ordR bw T).take k).flatMap cellsR ++ cellsR ((ordR bw T)[k]'(by rw [ordR_len]; exact hlt)) by rw [List.take_succ_eq_append_getElem (by rw [ordR_len]; exact hlt), List.flatMap_append]; simp)
                        rw [hoa] at HSN
                        clear hoa
                        have hli : (k : Int) < (n : Int) := by omega
                        cases bw with
                        | false =>
                          rw [if_neg (by decide)] at HSN
                          obtain ⟨e0, e1, e2⟩ := cellsR_at T k hlt
                          have m0 := (((unhide HBR).cell (p := ⟨g, k * 3, none⟩) hgw).trans (unhide HCT _ rfl _ (by omega))).trans e0
                          have m1 := (((unhide HBR).cell (p := ⟨g, k * 3 + 1, none⟩) hgw).trans (unhide HCT _ rfl _ (by omega))).trans e1
                          have m2 := (((unhide HBR).cell (p := ⟨g, k * 3 + 2, none⟩) hgw).trans (unhide HCT _ rfl _ (by omega))).trans e2
                          clear e0 e1 e2
                          go_wp2_with (at_builtin; refine wpList_append_at _ rfl _ _ 28 rfl w2.heap.size 38 i0 _ 3 40 Tryz.underlying28 hi hz0 hz1 hz2 rfl (by decide) _ _ _ rfl (hown.alloc _) (some ⟨_, 0, none⟩) 1 1 [SV T[k].1, .int .i64 T[k].2.1, SV T[k].2.2] rfl rfl (by intro e; cases e) (cells_new _ _ _) (by intro u hu; simp at hu; rcases hu with rfl | rfl | rfl <;> rfl) (by unfold maxLen; omega) (by omega) (by simp; omega) ?_; intro v6 w6 hown6 hgrow6 hwh6)
                          go_roundw
                          case rel =>
                            refine ⟨k + 1, by omega, by omega, by go_num, ?_, ?_⟩
                            · rw [unhide HSN]; exact hown6
                            · exact hide (((unhide HBR).alloc hszr _).grown hgrow6 (by simp; omega) (fun k hk => (hown.lt k hk).1))
                          case measure => simp [intOf]; omega
                        | true =>
                          rw [if_pos rfl] at HSN
                          have hlt2 : T.length - 1 - k < T.length := by omega
                          obtain ⟨e0, e1, e2⟩ := cellsR_at T (T.length - 1 - k) hlt2
                          have m0 := (((unhide HBR).cell (p := ⟨g, (T.length - 1 - k) * 3, none⟩) hgw).trans (unhide HCT _ rfl _ (by omega))).trans e0
                          have m1 := (((unhide HBR).cell (p := ⟨g, (T.length - 1 - k) * 3 + 1, none⟩) hgw).trans (unhide HCT _ rfl _ (by omega))).trans e1
                          have m2 := (((unhide HBR).cell (p := ⟨g, (T.length - 1 - k) * 3 + 2, none⟩) hgw).trans (unhide HCT _ rfl _ (by omega))).trans e2
                          clear e0 e1 e2
                          have HX := hide (show (T.length : Int) - 1 - (k : Int) = ((T.length - 1 - k : Nat) : Int) by omega)
                          have hx1 : (0 : Int) ≤ (T.length : Int) - 1 - (k : Int) := by omega
                          have hx2 : (T.length : Int) - 1 - (k : Int) < (T.length : Int) := by omega
                          have hx3 : ((T.length : Int) - 1 - (k : Int)).toNat = T.length - 1 - k := by omega
                          go_wp2_with (at_builtin; refine wpList_append_at _ rfl _ _ 28 rfl w2.heap.size 38 i0 _ 3 40 Tryz.underlying28 hi hz0 hz1 hz2 rfl (by decide) _ _ _ rfl (hown.alloc _) (some ⟨_, 0, none⟩) 1 1 [SV T[T.length - 1 - k].1, .int .i64 T[T.length - 1 - k].2.1, SV T[T.length - 1 - k].2.2] rfl rfl (by intro e; cases e) (cells_new _ _ _) (by intro u hu; simp at hu; rcases hu with rfl | rfl | rfl <;> rfl) (by unfold maxLen; omega) (by omega) (by simp; omega) ?_; intro v6 w6 hown6 hgrow6 hwh6)
                          go_roundw
                          case rel =>
                            refine ⟨k + 1, by omega, by omega, by go_num, ?_, ?_⟩
                            · rw [unhide HSN]; exact hown6
                            · exact hide (((unhide HBR).alloc hszr _).grown hgrow6 (by simp; omega) (fun k hk => (hown.lt k hk).1))
                          case measure => simp [intOf]; omega
                      · have hli : ¬ (k : Int) < (n : Int) := by omega
                        have hkn2 : k = n := by omega
                        have HRR := hide (show RowsP3 w (rowsA l fr tt (n : Int) bw L) (rowsE l fr tt n).1 (rowsE l fr tt n).2 (.returned (.tuple #[u19, .int .i64 0, .int .i64 0])) wr from by
                          rw [unhide HE, unhide HA, ← hkn2]
                          refine ⟨_, rfl, ?_, (unhide HB2).trans ((unhide HBR).mono (unhide HB2).size)⟩
                          rw [List.length_take, ordR_len, Nat.min_eq_left hk]
                          exact ownsRow_base hown (unhide HB2).size)
                        go_wp2_with fail
                        go_ret3
                        exact unhide HRR
                    · have HRR := hide (show RowsP3 w (rowsA l fr tt (n : Int) bw L) (rowsE l fr tt n).1 (rowsE l fr tt n).2 (.returned (.tuple #[u19, .int .i64 0, .int .i64 0])) wr from by
                        have hkl : k = (ordR bw T).length := by rw [ordR_len]; omega
                        rw [unhide HE, unhide HA]
                        refine ⟨_, rfl, ?_, (unhide HB2).trans ((unhide HBR).mono (unhide HB2).size)⟩
                        rw [List.take_of_length_le (by omega)]
                        rw [hkl, List.take_length] at hown
                        exact ownsRow_base hown (unhide HB2).size)
                      go_wp2_with fail
                      go_ret3
                      exact unhide HRR

end Go.Proofs.YtbljamcdaoofbaaGreatDoor

/- The program's Rows. -/
namespace Go.Proofs.YtbljamcdaoofbaaGreatDoor
open Go.RowKit

def LReadP (w : World) (l : List UInt8) (e : Ending) (w' : World) : Prop :=
  Below w.heap.size w w' ∧ (200 < l.length → e = .returned (.tuple #[.pointer none, .int .i64 7, .int .i64 0])) ∧
    (l.length ≤ 200 → (parseL l).2.1 = true → ∃ rb vm vf, e = .returned (.tuple #[.pointer (some ⟨rb, 1, none⟩), .int .i64 0, .int .i64 0]) ∧ QueryAt w' w.heap.size rb (parseL l).2.2 vm vf) ∧
    (l.length ≤ 200 → (parseL l).2.1 = false → e = .returned (.tuple #[.pointer none, .int .i64 8, .int .i64 (parseL l).1]))

set_option maxRecDepth 10000 in
set_option maxHeartbeats 1000000 in
theorem lread_any (l : List UInt8) (w : World) (hl : l.length ≤ 1048576) (hG : ErrAt w) (h8 : 8 ≤ w.heap.size) :
    Calls Tryz.prog 39 #[.string ⟨l.toArray⟩] w (LReadP w l) := by
  by_cases h2 : 200 < l.length
  · have h2i : (200 : Int) < l.length := by omega
    have HF := hide (show LReadP w l (.returned (.tuple #[.pointer none, .int .i64 7, .int .i64 0])) w from ⟨Below.refl _ _, fun _ => rfl, fun h => absurd h (by omega), fun h => absurd h (by omega)⟩)
    go_enter Tryz.func39, Tryz.ntmps39
    go_wp2_with fail
    go_ret3
    exact unhide HF
  · have h2i : ¬ (200 : Int) < l.length := by omega
    have hrd := read_any l w (by omega) hG h8
    go_enter Tryz.func39, Tryz.ntmps39
    go_wp2_with fail
    refine hrd.mono ?_
    rintro e w1 ⟨hb1, hgood, hbad⟩
    clear hrd
    cases hp : (parseL l).2.1 with
    | true =>
      obtain ⟨rb, vm, vf, rfl, hq⟩ := hgood hp
      have HF := hide (show LReadP w l (.returned (.tuple #[.pointer (some ⟨rb, 1, none⟩), .int .i64 0, .int .i64 0])) w1 from ⟨hb1, fun h => absurd h h2, fun _ _ => ⟨rb, vm, vf, rfl, hq⟩, fun _ h => absurd h (by simp [hp])⟩)
      clear hgood hbad hb1 hq
      go_wp2_with fail
      go_ret3
      exact unhide HF
    | false =>
      have he := hbad hp
      subst he
      have HF := hide (show LReadP w l (.returned (.tuple #[.pointer none, .int .i64 8, .int .i64 (parseL l).1])) w1 from ⟨hb1, fun h => absurd h h2, fun _ h => absurd h (by simp [hp]), fun _ _ => rfl⟩)
      clear hgood hbad hb1
      go_wp2_with fail
      go_ret3
      exact unhide HF

def checkRE (q : Qry) (fr tt lim : Int) : Int :=
  if (q.meas == []) = false then 9
  else if fr < 0 ∨ tt < fr ∨ 1000001 < tt then 10
  else if lim < 0 ∨ 50 < lim then 11
  else 0

set_option maxRecDepth 10000 in
set_option maxHeartbeats 2000000 in
theorem checkRows_any {w : World} {base rb : Nat} {q : Qry} {vm vf : Value} (fr tt lim : Int) (hq : QueryAt w base rb q vm vf) :
    Calls Tryz.prog 40 #[.pointer (some ⟨rb, 1, none⟩), .int .i64 fr, .int .i64 tt, .int .i64 lim] w fun e w' => e = .returned (.int .i64 (checkRE q fr tt lim)) ∧ w' = w := by
  obtain ⟨v0, hblk⟩ := hq.block
  obtain ⟨-, c1, -, -, -, -, -⟩ := cell_of_block6 hblk
  clear hq hblk
  generalize hres : checkRE q fr tt lim = res
  have HR := hide hres
  clear hres
  unfold checkRE at HR
  cases hm : (q.meas == []) with
  | false =>
    have hr : res = 9 := by have := unhide HR; rw [if_pos hm] at this; exact this.symm
    subst hr
    clear HR
    go_enter Tryz.func40, Tryz.ntmps40
    go_wp2_with fail
    go_ret
    exact ⟨rfl, rfl⟩
  | true =>
    have HR2 : Hid ((if fr < 0 ∨ tt < fr ∨ 1000001 < tt then (10 : Int) else if lim < 0 ∨ 50 < lim then 11 else 0) = res) := by have := unhide HR; rw [if_neg (by simp [hm])] at this; exact this
    clear HR
    by_cases h3 : fr < 0
    · have hr : res = 10 := by have := unhide HR2; rw [if_pos (.inl h3)] at this; exact this.symm
      subst hr
      clear HR2
      go_enter Tryz.func40, Tryz.ntmps40
      go_wp2_with fail
      go_ret
      exact ⟨rfl, rfl⟩
    · by_cases h4 : tt < fr
      · have hr : res = 10 := by have := unhide HR2; rw [if_pos (.inr (.inl h4))] at this; exact this.symm
        subst hr
        clear HR2
        go_enter Tryz.func40, Tryz.ntmps40
        go_wp2_with fail
        go_ret
        exact ⟨rfl, rfl⟩
      · by_cases h5 : 1000001 < tt
        · have hr : res = 10 := by have := unhide HR2; rw [if_pos (.inr (.inr h5))] at this; exact this.symm
          subst hr
          clear HR2
          go_enter Tryz.func40, Tryz.ntmps40
          go_wp2_with fail
          go_ret
          exact ⟨rfl, rfl⟩
        · have HR3 : Hid ((if lim < 0 ∨ 50 < lim then (11 : Int) else 0) = res) := by have := unhide HR2; rw [if_neg (by omega)] at this; exact this
          clear HR2
          by_cases h6 : lim < 0
          · have hr : res = 11 := by have := unhide HR3; rw [if_pos (.inl h6)] at this; exact this.symm
            subst hr
            clear HR3
            go_enter Tryz.func40, Tryz.ntmps40
            go_wp2_with fail
            go_ret
            exact ⟨rfl, rfl⟩
          · by_cases h7 : 50 < lim
            · have hr : res = 11 := by have := unhide HR3; rw [if_pos (.inr h7)] at this; exact this.symm
              subst hr
              clear HR3
              go_enter Tryz.func40, Tryz.ntmps40
              go_wp2_with fail
              go_ret
              exact ⟨rfl, rfl⟩
            · have hr : res = 0 := by have := unhide HR3; rw [if_neg (by omega)] at this; exact this.symm
              subst hr
              clear HR3
              go_enter Tryz.func40, Tryz.ntmps40
              go_wp2_with fail
              go_ret
              exact ⟨rfl, rfl⟩

theorem rowsE_check {l : List UInt8} {fr tt lim : Int} (h1 : l.length ≤ 200) (h2 : (parseL l).2.1 = true) : rowsE l fr tt lim = (checkRE (parseL l).2.2 fr tt lim, 0) := by
  unfold rowsE checkRE
  rw [if_neg (by omega), if_neg (by simp [h2])]
  repeat' split
  all_goals rfl

set_option maxRecDepth 10000 in
set_option maxHeartbeats 4000000 in
theorem pRows_any {w : World} {F : Nat → Prop} {p : Nat} {ns : List Node} {va : Value} {S : List Strm} {L : List Rw} (l : List UInt8) (fr tt lim : Int) (bw : Bool) (h : StoreAt w F p ns va) (hrel : RelA (ns.map absN) S L) (hf : Fine S L) (hl : l.length ≤ 1048576) (hE : ErrAt w) (hG : MaxAt w) (h8 : 8 ≤ w.heap.size) :
    Calls Tryz.prog 20 #[.pointer (some ⟨p, 0, none⟩), .string ⟨l.toArray⟩, .int .i64 fr, .int .i64 tt, .int .i64 lim, .bool bw] w (RowsP3 w (rowsA l fr tt lim bw L) (rowsE l fr tt lim).1 (rowsE l fr tt lim).2) := by
  have hrd := lread_any l w hl hE h8
  have HH := hide h
  have HREL := hide hrel
  have HNF := hide (NodesFine.of hrel hf)
  have HG := hide hG
  clear h hrel hf hG hE
  go_enter Tryz.func20, Tryz.ntmps20
  go_wp2_with fail
  refine hrd.mono ?_
  rintro e w1 ⟨hb1, hlong, hgood, hbad⟩
  clear hrd
  have HB1 := hide hb1
  clear hb1
  by_cases h2 : 200 < l.length
  · have he := hlong h2
    subst he
    have HE := hide (show rowsE l fr tt lim = (7, 0) by unfold rowsE; rw [if_pos h2])
    clear hlong hgood hbad
    go_wp2_with fail
    go_ret3
    exact RowsP3.ers (unhide HE) (by decide) (unhide HB1)
  · have h2' : l.length ≤ 200 := by omega
    cases hp : (parseL l).2.1 with
    | false =>
      have he := hbad h2' hp
      subst he
      have HE := hide (show rowsE l fr tt lim = ((8 : Int), ((parseL l).1 : Int)) by unfold rowsE; rw [if_neg h2, if_pos hp])
      clear hlong hgood hbad
      go_wp2_with fail
      go_ret3
      exact RowsP3.ers (unhide HE) (by decide) (unhide HB1)
    | true =>
      obtain ⟨rb, vm, vf, he, hq⟩ := hgood h2' hp
      subst he
      have hce := rowsE_check (fr := fr) (tt := tt) (lim := lim) h2' hp
      have hck := checkRows_any fr tt lim hq
      have HQ := hide hq
      obtain ⟨-, -, s3⟩ := parse_small l h2'
      have HS3 := hide s3
      clear hlong hgood hbad hq s3
      go_wp2_with fail
      refine hck.mono ?_
      rintro e w2 ⟨rfl, rfl⟩
      clear hck
      by_cases hc : checkRE (parseL l).2.2 fr tt lim = 0
      · have HA := hide (show rowsA l fr tt lim bw L = (ordR bw (askedL (parseL l).2.2.ms (parseL l).2.2.fs fr tt L)).take lim.toNat by unfold rowsA; rw [hce, hc, if_pos rfl])
        have hlim : 0 ≤ lim ∧ lim ≤ 50 := by
          unfold checkRE at hc
          split at hc
          · cases hc
          · split at hc
            · cases hc
            · split at hc
              · cases hc
              · omega
        rw [hc] at hce
        have HE := hide hce
        clear hce
        rw [hc]
        have hsz1 := (unhide HB1).size
        have hst1 := (unhide HH).keep (w' := w2) (fun b hb _ => (unhide HB1).block b hb)
        have hso := sources_any fr tt hst1 (unhide HNF) (unhide HQ) (unhide HS3) ((unhide HG).below h8 (unhide HB1)) (by omega)
        clear hst1
        go_wp2_with fail
        refine hso.mono ?_
        rintro e w3 ⟨v3, srcs, rfl, hI3, hss⟩
        clear hso
        have hMI := MInv.of_asked bw (unhide HREL) (parseL l).2.2 fr tt srcs hss
        obtain ⟨n, rfl⟩ : ∃ n : Nat, lim = n := ⟨lim.toNat, by omega⟩
        have h6 : srcs.length ≤ 6 := by
          have h1 := congrArg List.length hss
          rw [List.length_map] at h1
          rw [h1, srcL, List.length_map]
          refine Nat.le_trans (List.length_filter_le _ _) ?_
          rw [List.length_map]
          exact (unhide HNF).six
        have hmr := mRows_any hI3.row (fun s hs => hI3.oks s hs) h6 hMI (show n ≤ 50 by omega)
        have HB3 := hide hI3.bel
        rw [Int.toNat_natCast] at HA
        clear hI3 hss hMI
        go_wp2_with fail
        refine hmr.mono ?_
        rintro e w4 ⟨v4, rfl, hown4, hb4⟩
        clear hmr
        have HF := hide (show RowsP3 w (rowsA l fr tt (n : Int) bw L) (rowsE l fr tt n).1 (rowsE l fr tt n).2 (.returned (.tuple #[v4, .int .i64 0, .int .i64 0])) w4 from by
          rw [unhide HE, unhide HA]
          have hb13 := (unhide HB1).trans ((unhide HB3).mono hsz1)
          exact ⟨_, rfl, ownsRow_base hown4 hb13.size, hb13.trans (hb4.mono hb13.size)⟩)
        clear hown4 hb4
        go_wp2_with fail
        go_ret3
        exact unhide HF
      · have HE := hide hce
        have HC := hide hc
        have hcb : (checkRE (parseL l).2.2 fr tt lim == 0) = false := by simpa using hc
        clear hce
        generalize checkRE (parseL l).2.2 fr tt lim = er at *
        go_wp2_with fail
        go_ret3
        exact RowsP3.ers (unhide HE) (unhide HC) (unhide HB1)

end Go.Proofs.YtbljamcdaoofbaaGreatDoor
