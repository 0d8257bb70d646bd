/- Texts RefMeas, PMPure, PMWalk, joined. -/
import Derived.Test.YtbljamcdaoofbaaGreatDoorRPutToPGroup
import Derived.Test.YtbljamcdaoofbaaGreatDoorRefRowsToPRowsAll
import Derived.Test.YtbljamcdaoofbaaGreatDoorPNumToPMNew
/- The reference's Measure. -/
namespace Go.Proofs.YtbljamcdaoofbaaGreatDoor
open Go.RowKit

theorem RQAt.below {w w' : World} {base qb : Nat} {vM vF : Value} {meas by_ : List UInt8} {span bad : Int} {M : List Mch} {Fs : List Flt} (h : RQAt w base qb vM vF meas span by_ bad M Fs) (hb : Below w.heap.size w w') : RQAt w' base qb vM vF meas span by_ bad M Fs :=
  h.keep fun b hbl => hb.block b hbl

theorem insR_in {o : List Rw} {r x : Rw} (h : x ∈ insR o r) : x ∈ o ∨ x = r := by
  unfold insR at h
  simp only [List.mem_append, List.mem_singleton] at h
  rcases h with (h | h) | h
  · exact .inl (List.mem_of_mem_take h)
  · exact .inr h
  · exact .inl (List.mem_of_mem_drop h)

theorem asked_mem (M : List Mch) (Fs : List Flt) (fr tt : Int) (L : List Rw) : ∀ r ∈ askedL M Fs fr tt L, r ∈ L := by
  have h : ∀ k, k ≤ L.length → ∀ r ∈ askedL M Fs fr tt (L.take k), r ∈ L := by
    intro k
    induction k with
    | zero => intro _ r hr; simp [askedL] at hr
    | succ k ih =>
      intro hk r hr
      rw [askedL_snoc M Fs fr tt L k (by omega)] at hr
      split at hr
      · rcases insR_in hr with h | h
        · exact ih (by omega) r h
        · rw [h]; exact List.getElem_mem _
      · exact ih (by omega) r hr
  have := h L.length (Nat.le_refl _)
  rwa [List.take_length] at this

theorem ownsRow_below {w w' : World} {base e size n : Nat} {v : Value} {xs : List Value} (h : w.ownsRow base e size v n xs) (hb : Below w.heap.size w w') : w'.ownsRow base e size v n xs :=
  ownsRow_same h fun _ hg => hb.block _ (ownsRow_type h hg).1

theorem infoSm : (Tryz.prog.info? 57).map (fun i => (i.zero, i.size, i.bytes)) = some (some (.agg #[.string ByteArray.empty, .int .i64 0]), 2, 24) := by kernel_rfl

theorem grpL_len (by_ : List UInt8) (T : List Rw) (k : List UInt8) : (grpL by_ T k).length ≤ T.length := List.length_filter_le _ _

set_option maxRecDepth 10000 in
set_option maxHeartbeats 2000000 in
theorem refMeas_any {w : World} {F : Nat → Prop} {p : Nat} {S : List Strm} {L : List Rw} {vS vL : Value} (l : List UInt8) (at_ : Int) (hr : RefAt w F p S L vS vL) (hL : L.length ≤ 300) (hf : Fine S L) (hl : l.length ≤ 1048576) :
    Calls Tryz.prog 95 #[.pointer (some ⟨p, 0, none⟩), .string ⟨l.toArray⟩, .int .i64 at_] w (MeasP3 w (measA l at_ L) (measE l at_).1 (measE l at_).2) := by
  obtain ⟨i0, hi, hz0, hz1, hz2⟩ := info_parts Tryz.info38
  obtain ⟨i1, hj, hy0, hy1, hy2⟩ := info_parts infoSm
  have HR := hide hr
  have HF := hide hf
  clear hr hf
  go_enter Tryz.func95, Tryz.ntmps95
  go_wp2_with fail
  refine (parse_any l w hl).mono ?_
  rintro e w1 ⟨hb1, hlong, hgood, hbad⟩
  have HB1 := hide hb1
  have ht := times_any at_ w1
  clear hb1
  by_cases h2 : 200 < l.length
  · have he := hlong h2
    subst he
    have HE := hide (show measE l at_ = (7, 0) by unfold measE; rw [if_pos h2])
    clear hlong hgood hbad
    go_wp2_with fail
    refine ht.mono ?_
    rintro e w' ⟨rfl, hww⟩
    rw [hww]
    clear hww w' ht
    go_wp2_with fail
    go_ret3
    exact MeasP3.ers (unhide HE) (by decide) (unhide HB1)
  · have h2' : l.length ≤ 200 := by omega
    cases hp : (parseL l).2.1 with
    | false =>
      have he := hbad h2' hp
      subst he
      have HE := hide (show measE l at_ = ((8 : Int), ((parseL l).1 : Int)) by unfold measE; rw [if_neg h2, if_pos hp])
      clear hlong hgood hbad
      go_wp2_with fail
      refine ht.mono ?_
      rintro e w' ⟨rfl, hww⟩
      rw [hww]
      clear hww w' ht
      go_wp2_with fail
      go_ret3
      exact MeasP3.ers (unhide HE) (by decide) (unhide HB1)
    | true =>
      obtain ⟨qb, vM, vF, he, hq⟩ := hgood h2' hp
      subst he
      obtain ⟨s1, s2, s3⟩ := parse_small l h2'
      have HQ := hide hq
      have HS := hide (And.intro s1 (And.intro s2 s3))
      obtain ⟨-, -, c2, c3, -, -, -⟩ := rcell6 hq.block
      clear hlong hgood hbad hq s1 s2 s3
      go_wp2_with fail
      refine ht.mono ?_
      rintro e w' ⟨rfl, hww⟩
      rw [hww]
      clear hww w' ht
      cases hm : ((parseL l).2.2.meas == []) with
      | true =>
        have HE := hide (show measE l at_ = (9, 0) by unfold measE; rw [if_neg h2, if_neg (by simp [hp]), if_pos hm])
        go_wp2_with fail
        go_ret3
        exact MeasP3.ers (unhide HE) (by decide) (unhide HB1)
      | false =>
        cases htb : timeB at_ with
        | false =>
          have HE := hide (show measE l at_ = (10, 0) by unfold measE; rw [if_neg h2, if_neg (by simp [hp]), if_neg (by simp [hm]), if_pos htb])
          go_wp2_with fail
          go_ret3
          exact MeasP3.ers (unhide HE) (by decide) (unhide HB1)
        | true =>
          have hE : measE l at_ = (0, 0) := by unfold measE; rw [if_neg h2, if_neg (by simp [hp]), if_neg (by simp [hm]), if_neg (by simp [htb])]
          have HA := hide (show measA l at_ L = smpsL (parseL l).2.2 (askedL (parseL l).2.2.ms (parseL l).2.2.fs (at_ - (parseL l).2.2.span + 1) (at_ + 1) L) (keysL (parseL l).2.2.by_ (askedL (parseL l).2.2.ms (parseL l).2.2.fs (at_ - (parseL l).2.2.span + 1) (at_ + 1) L)) by unfold measA; rw [hE, if_pos rfl])
          have HE := hide hE
          have hsp := meas_span l hm
          have htr : 0 ≤ at_ ∧ at_ ≤ 1000000 := by unfold timeB at htb; simpa using htb
          obtain ⟨tr1, tr2⟩ := htr
          obtain ⟨sp1, sp2⟩ := hsp
          have hr1 := (unhide HR).keep (w' := w1) (fun b hb _ => (unhide HB1).block b hb)
          have hlen := askedL_len (parseL l).2.2.ms (parseL l).2.2.fs (at_ - (parseL l).2.2.span + 1) (at_ + 1) L
          have hmem : ∀ r ∈ askedL (parseL l).2.2.ms (parseL l).2.2.fs (at_ - (parseL l).2.2.span + 1) (at_ + 1) L, r ∈ L := asked_mem _ _ _ _ L
          have has := asked_any (at_ - (parseL l).2.2.span + 1) (at_ + 1) hr1 hL (unhide HQ) (unhide HS).1 (unhide HS).2.1 (unhide HS).2.2 (fun r hr => ⟨((unhide HF).lines r hr).2, Nat.le_trans ((unhide HF).lines r hr).1 (by omega)⟩)
          have HX := hide (fun r hr => (unhide HF).lines r (hmem r hr))
          clear hr1 hE hmem HS HR HF
          generalize askedL (parseL l).2.2.ms (parseL l).2.2.fs (at_ - (parseL l).2.2.span + 1) (at_ + 1) L = T at *
          generalize (parseL l).2.2 = q at *
          go_wp2_with fail
          refine has.mono ?_
          rintro e w2 ⟨v2, rfl, hown2, hb2⟩
          clear has
          have hb12 : Below w.heap.size w w2 := (unhide HB1).trans (hb2.mono (unhide HB1).size)
          have hq2 := (unhide HQ).below hb2
          have hTl : T.length ≤ 300 := by omega
          obtain ⟨aT, capT, rfl, hncT, hcmT, nilT, aoT, cellT, -⟩ := owns_form hown2
          unfold maxLen at hcmT
          have HNT := hide nilT
          have HAT := hide aoT
          have HCT := hide cellT
          have HB2 := hide hb12
          have HQ2 := hide hq2
          clear hown2 hb2 nilT aoT cellT hb12 HB1 HQ hq2 c2 c3 hm htb tr1 tr2
          go_wp2_with fail
          go_loopw [14, 15] (fun v i wr => ∃ k : Nat, k ≤ T.length ∧ i = .int .i64 k ∧ wr.ownsRow w2.heap.size 9 1 v (keysL q.by_ (T.take k)).length ((keysL q.by_ (T.take k)).map SV) ∧ Hid (Below w2.heap.size w2 wr)) (fun _ i _ => T.length - (intOf i).toNat)
          case atStart => exact ⟨0, Nat.zero_le _, rfl, World.ownsRow_nil _ _ _ _, hide (Below.refl _ _)⟩
          case round =>
            obtain ⟨k, hk, rfl, hown, HBR⟩ := hrel
            by_cases hlt : k < T.length
            · obtain ⟨⟨g, o, sp⟩, rfl⟩ : ∃ a, aT = some a := by
                cases aT with
                | none => have := (unhide HNT rfl).1; omega
                | some a => exact ⟨a, rfl⟩
              obtain ⟨ho, hsp, -, hgw⟩ := unhide HAT _ rfl
              simp only at ho hsp hgw
              subst ho hsp
              have hszr := (unhide HBR).size
              obtain ⟨e0, e1, e2⟩ := cellsR_at T k hlt
              have m0 := (((unhide HBR).cell (p := ⟨g, k * 3, none⟩) hgw).trans (unhide HCT _ rfl _ (by omega))).trans e0
              have m1 := (((unhide HBR).cell (p := ⟨g, k * 3 + 1, none⟩) hgw).trans (unhide HCT _ rfl _ (by omega))).trans e1
              have m2 := (((unhide HBR).cell (p := ⟨g, k * 3 + 2, none⟩) hgw).trans (unhide HCT _ rfl _ (by omega))).trans e2
              have hkey := key_any T[k] ((unhide HQ2).below (unhide HBR)) (unhide HX T[k] (List.getElem_mem _)).2
              have HSN := hide (keysL_snoc q.by_ T k hlt)
              have hkl := keysL_len q.by_ T k hk
              clear e0 e1 e2
              have hki : (k : Int) < (T.length : Int) := by omega
              generalize keysL q.by_ (T.take k) = K at *
              generalize keyL q.by_ T[k] = key at *
              generalize T[k] = r at *
              obtain ⟨lab, tm, line⟩ := r
              simp only at m0 m1 m2 hkey
              go_wp2_with fail
              refine hkey.mono ?_
              rintro e w3 ⟨rfl, hb3⟩
              clear hkey
              have hown3 := ownsRow_below hown hb3
              have hput := put_m K _ key w3 w2.heap.size (by have := hb3.size; omega) hown3 (by omega)
              have HB3 := hide ((unhide HBR).trans (hb3.mono hszr))
              clear hown3 hb3
              go_wp2_with fail
              refine hput.mono ?_
              rintro e w4 ⟨v4, rfl, hown4, hb4⟩
              clear hput
              have HB4 := hide ((unhide HB3).trans (hb4.mono (unhide HB3).size))
              clear hb4 HB3
              go_wp2_with fail
              go_roundw
              case rel =>
                refine ⟨k + 1, by omega, by go_num, ?_, HB4⟩
                rw [unhide HSN]
                exact hown4
              case measure => simp [intOf]; omega
            · have hkT : k = T.length := by omega
              subst hkT
              have hkl := keysL_len q.by_ T T.length (Nat.le_refl _)
              rw [List.take_length] at hown hkl
              rename World => wA
              obtain ⟨aK, capK, rfl, hncK, hcmK, nilK, aoK, cellK, -⟩ := owns_form hown
              unfold maxLen at hcmK
              have HNK := hide nilK
              have HAK := hide aoK
              have HCK := hide cellK
              have HCT2 := hide (show ∀ a, aT = some a → ∀ j, j < T.length * 3 → wA.cell? ⟨a.block, j, none⟩ = (T.flatMap cellsR)[j]? from fun a ha j hj => ((unhide HBR).cell (p := ⟨a.block, j, none⟩) (unhide HAT a ha).2.2.2).trans (unhide HCT a ha j hj))
              have HAT2 := hide (show ∀ a, aT = some a → a.off = 0 ∧ a.spot = none ∧ a.block < wA.heap.size from fun a ha => ⟨(unhide HAT a ha).1, (unhide HAT a ha).2.1, Nat.lt_of_lt_of_le (unhide HAT a ha).2.2.2 (unhide HBR).size⟩)
              have HQ3 := hide ((unhide HQ2).below (unhide HBR))
              have HB3 := hide ((unhide HB2).trans ((unhide HBR).mono (unhide HB2).size))
              clear hown nilK aoK cellK HAT HCT HQ2 HB2 HBR hk hlt
              generalize hKL : keysL q.by_ T = K at *
              go_wp2_with fail
              go_loopw [16, 17, 18, 19, 20, 21, 22] (fun v i _ _ _ _ _ wx => ∃ j : Nat, j ≤ K.length ∧ i = .int .i64 j ∧ wx.ownsRow wA.heap.size 57 2 v (smpsL q T (K.take j)).length ((smpsL q T (K.take j)).flatMap cellsMs) ∧ Hid (Below wA.heap.size wA wx)) (fun _ i _ _ _ _ _ _ => K.length - (intOf i).toNat)
              case atStart => exact ⟨0, Nat.zero_le _, rfl, World.ownsRow_nil _ _ _ _, hide (Below.refl _ _)⟩
              case round =>
                obtain ⟨j, hjK, rfl, hown, HBX⟩ := hrel
                by_cases hlt : j < K.length
                · rename World => wX
                  have hszx := (unhide HBX).size
                  have hji : (j : Int) < (K.length : Int) := by omega
                  obtain ⟨⟨gk, ok, sk⟩, rfl⟩ : ∃ a, aK = some a := by
                    cases aK with
                    | none => have := (unhide HNK rfl).1; omega
                    | some a => exact ⟨a, rfl⟩
                  obtain ⟨hok, hsk, -, hgkw⟩ := unhide HAK _ rfl
                  simp only at hok hsk hgkw
                  subst hok hsk
                  have mk : wX.cell? ⟨gk, j, none⟩ = some (SV K[j]) := (((unhide HBX).cell (p := ⟨gk, j, none⟩) hgkw).trans (unhide HCK _ rfl _ (by omega))).trans (map_SV_at K j hlt)
                  have HSS := hide (smpsL_snoc q T K j hlt)
                  have hsl : (smpsL q T (K.take j)).length ≤ 300 := Nat.le_trans (smpsL_len _ _ _) (by rw [List.length_take]; omega)
                  generalize smpsL q T (K.take j) = O at *
                  generalize K[j] = key at *
                  go_upto_region 21 with fail
                  go_loopw [18, 19, 20] (fun v i _ wy => ∃ m : Nat, m ≤ T.length ∧ i = .int .i64 m ∧ wy.ownsRow wX.heap.size 38 3 v (grpL q.by_ (T.take m) key).length ((grpL q.by_ (T.take m) key).flatMap cellsR) ∧ Hid (Below wX.heap.size wX wy)) (fun _ i _ _ => T.length - (intOf i).toNat)
                  case atStart => exact ⟨0, Nat.zero_le _, rfl, World.ownsRow_nil _ _ _ _, hide (Below.refl _ _)⟩
                  case round =>
                    obtain ⟨m, hmT, rfl, hgr, HBY⟩ := hrel
                    rename World => wY
                    have hszy := (unhide HBY).size
                    by_cases hlt2 : m < T.length
                    · obtain ⟨⟨g, o, sp⟩, rfl⟩ : ∃ a, aT = some a := by
                        cases aT with
                        | none => have := (unhide HNT rfl).1; omega
                        | some a => exact ⟨a, rfl⟩
                      obtain ⟨ho, hsp, hgw⟩ := unhide HAT2 _ rfl
                      simp only at ho hsp hgw
                      subst ho hsp
                      have HXY := hide ((unhide HBX).trans ((unhide HBY).mono hszx))
                      obtain ⟨e0, e1, e2⟩ := cellsR_at T m hlt2
                      have m0 := (((unhide HXY).cell (p := ⟨g, m * 3, none⟩) hgw).trans (unhide HCT2 _ rfl _ (by omega))).trans e0
                      have m1 := (((unhide HXY).cell (p := ⟨g, m * 3 + 1, none⟩) hgw).trans (unhide HCT2 _ rfl _ (by omega))).trans e1
                      have m2 := (((unhide HXY).cell (p := ⟨g, m * 3 + 2, none⟩) hgw).trans (unhide HCT2 _ rfl _ (by omega))).trans e2
                      have mk2 := ((unhide HXY).cell (p := ⟨gk, j, none⟩) hgkw).trans (((unhide HBX).cell (p := ⟨gk, j, none⟩) hgkw).symm.trans mk)
                      have hkey := key_any T[m] ((unhide HQ3).below (unhide HXY)) (unhide HX T[m] (List.getElem_mem _)).2
                      have HSN := hide (grpL_snoc q.by_ T key m hlt2)
                      have hgl : (grpL q.by_ (T.take m) key).length ≤ 300 := Nat.le_trans (grpL_len _ _ _) (by rw [List.length_take]; omega)
                      have hmi : (m : Int) < (T.length : Int) := by omega
                      clear e0 e1 e2
                      generalize grpL q.by_ (T.take m) key = G at *
                      generalize keyL q.by_ T[m] = rk at *
                      generalize T[m] = r at *
                      obtain ⟨lab, tm, line⟩ := r
                      simp only at m0 m1 m2 hkey
                      go_wp2_with fail
                      refine hkey.mono ?_
                      rintro e w5 ⟨rfl, hb5⟩
                      clear hkey
                      have hgr5 := ownsRow_below hgr hb5
                      have HB5 := hide ((unhide HBY).trans (hb5.mono hszy))
                      have n0 := (hb5.cell (p := ⟨g, m * 3, none⟩) (Nat.lt_of_lt_of_le hgw (unhide HXY).size)).trans m0
                      have n1 := (hb5.cell (p := ⟨g, m * 3 + 1, none⟩) (Nat.lt_of_lt_of_le hgw (unhide HXY).size)).trans m1
                      have n2 := (hb5.cell (p := ⟨g, m * 3 + 2, none⟩) (Nat.lt_of_lt_of_le hgw (unhide HXY).size)).trans m2
                      have nk := (hb5.cell (p := ⟨gk, j, none⟩) (Nat.lt_of_lt_of_le hgkw (unhide HXY).size)).trans mk2
                      have hsz5 := (unhide HB5).size
                      clear hb5 m0 m1 m2 mk2 hgr HBY HXY
                      obtain ⟨aG, cG, rfl, -, -, -, -, -, -⟩ := owns_form hgr5
                      cases hkk : (rk == key) with
                      | true =>
                        rw [hkk, if_pos rfl] at HSN
                        go_wp2_with (at_builtin; refine wpList_append_at _ rfl _ _ 28 rfl wX.heap.size 38 i0 _ 3 40 Tryz.underlying28 hi hz0 hz1 hz2 rfl (by decide) _ _ _ rfl (hgr5.alloc _) (some ⟨_, 0, none⟩) 1 1 [SV lab, .int .i64 tm, SV line] rfl rfl (by intro e; cases e) (cells_new _ _ _) (by intro u hu; simp at hu; rcases hu with rfl | rfl | rfl <;> rfl) (by unfold maxLen; omega) (by omega) (by simp; omega) ?_; intro v6 w6 hown6 hgrow6 hwh6)
                        go_roundw
                        case rel =>
                          refine ⟨m + 1, by omega, by go_num, ?_, hide (((unhide HB5).alloc hsz5 _).grown hgrow6 (by simp; omega) (fun k hk => (hgr5.lt k hk).1))⟩
                          rw [unhide HSN, List.flatMap_append, List.length_append]
                          exact hown6
                        case measure => simp [intOf]; omega
                      | false =>
                        rw [hkk, if_neg (by decide), List.append_nil] at HSN
                        go_wp2_with fail
                        go_roundw
                        case rel =>
                          refine ⟨m + 1, by omega, by go_num, ?_, HB5⟩
                          rw [unhide HSN]
                          exact hgr5
                        case measure => simp [intOf]; omega
                    · have hmT2 : m = T.length := by omega
                      subst hmT2
                      rw [List.take_length] at hgr
                      have hgl : (grpL q.by_ T key).length ≤ 300 := Nat.le_trans (grpL_len _ _ _) hTl
                      have HXY := hide ((unhide HBX).trans ((unhide HBY).mono hszx))
                      have hsm := sample_any ((unhide HQ3).below (unhide HXY)) (by omega) (by omega) (ownsRow_base hgr (Nat.zero_le _)) hgl (fun r hr => (unhide HX r (List.mem_filter.1 hr).1).1)
                      have mk2 := ((unhide HXY).cell (p := ⟨gk, j, none⟩) hgkw).trans (((unhide HBX).cell (p := ⟨gk, j, none⟩) hgkw).symm.trans mk)
                      have hownY := ownsRow_below hown (unhide HBY)
                      have hszA : wA.heap.size ≤ wY.heap.size := (unhide HXY).size
                      clear hown hgr HBY HBX mk hszy hszx
                      have hsm2 : Calls Tryz.prog 122 #[.pointer (some ⟨qb, 0, none⟩), _] wY fun e w' => e = .returned (.tuple #[.int .i64 ((grpS q (grpL q.by_ T key)).getD 0), .bool (grpS q (grpL q.by_ T key)).isSome]) ∧ ∃ n, w' = wY.drewN n := hsm
                      clear hsm
                      generalize hG : grpL q.by_ T key = G at *
                      go_wp2_with fail
                      refine hsm2.mono ?_
                      rintro e w' ⟨rfl, n, hww⟩
                      rw [hww]
                      clear hww w' hsm2
                      have mk3 : (wY.drewN n).cell? ⟨gk, j, none⟩ = some (SV key) := mk2
                      have hownZ : (wY.drewN n).ownsRow wA.heap.size 57 2 _ O.length (O.flatMap cellsMs) := hownY
                      have HBZ := hide (show Below wA.heap.size wA (wY.drewN n) from Below.drawn (unhide HXY) n)
                      have hszZ : wA.heap.size ≤ (wY.drewN n).heap.size := hszA
                      clear mk2 hownY HXY hszA
                      generalize wY.drewN n = wZ at *
                      obtain ⟨aO, cO, rfl, -, -, -, -, -, -⟩ := owns_form hownZ
                      cases hgs : grpS q G with
                      | none =>
                        rw [hgs] at HSS
                        simp only [List.append_nil] at HSS
                        go_wp2_with fail
                        go_roundw
                        case rel =>
                          refine ⟨j + 1, by omega, by go_num, ?_, HBZ⟩
                          rw [unhide HSS]
                          exact hownZ
                        case measure => simp [intOf]; omega
                      | some b =>
                        rw [hgs] at HSS
                        simp only at HSS
                        go_wp2_with (at_builtin; refine wpList_append_at _ rfl _ _ 52 rfl wA.heap.size 57 i1 _ 2 24 Tryz.underlying52 hj hy0 hy1 hy2 rfl (by decide) _ _ _ rfl (hownZ.alloc _) (some ⟨_, 0, none⟩) 1 1 [SV key, .int .i64 b] rfl rfl (by intro e; cases e) (cells_new _ _ _) (by intro u hu; simp at hu; rcases hu with rfl | rfl <;> rfl) (by unfold maxLen; omega) (by omega) (by simp; omega) ?_; intro v6 w6 hown6 hgrow6 hwh6)
                        go_roundw
                        case rel =>
                          refine ⟨j + 1, by omega, by go_num, ?_, hide (((unhide HBZ).alloc hszZ _).grown hgrow6 (by simp; omega) (fun k hk => (hownZ.lt k hk).1))⟩
                          rw [unhide HSS, List.flatMap_append, List.length_append]
                          exact hown6
                        case measure => simp [intOf]; omega
                · have hjL : j = K.length := by omega
                  subst hjL
                  rw [List.take_length] at hown
                  go_wp2_with fail
                  go_ret3
                  rw [unhide HA, unhide HE]
                  exact ⟨_, rfl, ownsRow_base hown (unhide HB3).size, (unhide HB3).trans ((unhide HBX).mono (unhide HB3).size)⟩

end Go.Proofs.YtbljamcdaoofbaaGreatDoor

/- What a measure's groups hold behind all lines: the document's samples. -/
namespace Go.Proofs.YtbljamcdaoofbaaGreatDoor
open Go.RowKit

/-- what comes in of a line, of lines, of sources -/
def pairK (kind key line : List UInt8) : List KL := if kind = meanT ∧ numB line = false then [] else [(key, line)]
def pairS (kind key : List UInt8) (lines : List Ln) : List KL := lines.flatMap (fun y => pairK kind key y.2)
def pairsL (kind by_ : List UInt8) (ss : List Src) : List KL := ss.flatMap (fun s => pairS kind (valueP by_ (cutL 44 s.lab)) s.lines)
def cntL (ss : List Src) : Nat := (ss.map (fun s => s.lines.length)).sum
def inB (kind : List UInt8) (r : Rw) : Bool := !(decide (kind = meanT ∧ numB r.2.2 = false))

structure GOk (gs : List Grp) (P : List KL) : Prop where
  inv : GInv gs P
  len : gs.length ≤ P.length
  short : ∀ x ∈ P, x.2.length ≤ 40

theorem GOk.empty : GOk [] [] := ⟨GInv.empty, Nat.le_refl _, fun x hx => by cases hx⟩

theorem putG_len (gs : List Grp) (key : List UInt8) : (putG gs key).length ≤ gs.length + 1 := by
  have := gplace_le gs key
  unfold putG
  split
  · omega
  · simp
    omega

theorem GOk.add {gs : List Grp} {P : List KL} (h : GOk gs P) (kind key line : List UInt8) (hl : line.length ≤ 40) : GOk (addG kind gs key line) (P ++ pairK kind key line) := by
  unfold addG pairK
  split
  · rw [List.append_nil]; exact h
  · refine ⟨h.inv.add key line, ?_, ?_⟩
    · have h1 := putG_len gs key
      have h2 := h.len
      rw [List.length_modify, List.length_append]
      simp only [List.length_cons, List.length_nil]
      omega
    · intro x hx
      rcases List.mem_append.1 hx with hx | hx
      · exact h.short x hx
      · rw [List.mem_singleton.1 hx]; exact hl

theorem tot_fit {P : List KL} {g : Grp} (h : TotG P g) (hs : ∀ x ∈ P, x.2.length ≤ 40) (hn : P.length ≤ 300) : g.n ≤ 300 ∧ g.b ≤ 12000 ∧ -300000300 ≤ g.s ∧ g.s ≤ 300000300 := by
  obtain ⟨h1, h2, h3⟩ := h
  have hlen : (selP P g.key).length ≤ 300 := Nat.le_trans (List.length_filter_le _ _) hn
  have hmem : ∀ x ∈ selP P g.key, x.2.length ≤ 40 := fun x hx => hs x (List.mem_filter.1 hx).1
  rw [h1, h2, h3]
  generalize selP P g.key = Q at *
  have hb : (Q.map (fun x => x.2.length)).sum ≤ 40 * Q.length := by
    clear h1 h2 h3 hlen
    induction Q with
    | nil => simp
    | cons x Q ih =>
      have h1 := hmem x List.mem_cons_self
      have h2 := ih fun y hy => hmem y (List.mem_cons_of_mem _ hy)
      simp only [List.map_cons, List.sum_cons, List.length_cons]
      omega
  have hv : -1000001 * (Q.length : Int) ≤ (Q.map (fun x => numV x.2)).sum ∧ (Q.map (fun x => numV x.2)).sum ≤ 1000001 * (Q.length : Int) := by
    clear h1 h2 h3 hlen hmem hb
    induction Q with
    | nil => simp
    | cons x Q ih =>
      have h1 := numV_abs x.2
      simp only [List.map_cons, List.sum_cons, List.length_cons]
      omega
  omega

theorem GOk.put {gs : List Grp} {P : List KL} (h : GOk gs P) (hn : P.length ≤ 300) (key : List UInt8) : ∀ g ∈ putG gs key, g.n ≤ 300 ∧ g.b ≤ 12000 ∧ -300000300 ≤ g.s ∧ g.s ≤ 300000300 :=
  fun g hg => tot_fit (h.inv.put key g hg) h.short hn

theorem GOk.fit {gs : List Grp} {P : List KL} (h : GOk gs P) (hn : P.length ≤ 300) : ∀ g ∈ gs, GFit g := by
  intro g hg
  have ht := h.inv.tot g hg
  refine ⟨?_, tot_fit ht h.short hn⟩
  obtain ⟨x, hx, e⟩ := (h.inv.mem g.key).1 ⟨g, hg, rfl⟩
  rw [ht.1]
  exact List.length_pos_iff_exists_mem.2 ⟨x, List.mem_filter.2 ⟨hx, by simp [e]⟩⟩

theorem pairK_len (kind key line : List UInt8) : (pairK kind key line).length ≤ 1 := by
  unfold pairK
  split <;> simp

theorem pairS_len (kind key : List UInt8) (lines : List Ln) : (pairS kind key lines).length ≤ lines.length := by
  unfold pairS
  induction lines with
  | nil => simp
  | cons y l ih =>
    have := pairK_len kind key y.2
    rw [List.flatMap_cons, List.length_append, List.length_cons]
    omega

theorem pairsL_len (kind by_ : List UInt8) (ss : List Src) : (pairsL kind by_ ss).length ≤ cntL ss := by
  unfold pairsL cntL
  induction ss with
  | nil => simp
  | cons s ss ih =>
    have := pairS_len kind (valueP by_ (cutL 44 s.lab)) s.lines
    rw [List.flatMap_cons, List.length_append, List.map_cons, List.sum_cons]
    omega

theorem cntL_take (ss : List Src) (k : Nat) (h : k < ss.length) : cntL (ss.take k) + ss[k].lines.length ≤ cntL ss := by
  unfold cntL
  induction ss generalizing k with
  | nil => simp at h
  | cons s ss ih =>
    cases k with
    | zero => simp
    | succ k =>
      have := ih k (by simpa using h)
      simp only [List.take_succ_cons, List.map_cons, List.sum_cons, List.getElem_cons_succ]
      omega

theorem pairs_lt (kind by_ key : List UInt8) (ss : List Src) (k j : Nat) (hc : cntL ss ≤ 300) (hk : k < ss.length) (hj : j < ss[k].lines.length) : (pairsL kind by_ (ss.take k) ++ pairS kind key (ss[k].lines.take j)).length ≤ 299 := by
  have h1 := pairsL_len kind by_ (ss.take k)
  have h2 := pairS_len kind key (ss[k].lines.take j)
  have h3 := cntL_take ss k hk
  rw [List.length_take] at h2
  rw [List.length_append]
  omega

theorem pairsL_snoc (kind by_ : List UInt8) (ss : List Src) (k : Nat) (hk : k < ss.length) : pairsL kind by_ (ss.take (k + 1)) = pairsL kind by_ (ss.take k) ++ pairS kind (valueP by_ (cutL 44 ss[k].lab)) ss[k].lines := by
  unfold pairsL
  rw [List.take_succ_eq_append_getElem hk, List.flatMap_append]
  simp

theorem pairS_snoc (kind key : List UInt8) (lines : List Ln) (j : Nat) (hj : j < lines.length) : pairS kind key (lines.take (j + 1)) = pairS kind key (lines.take j) ++ pairK kind key lines[j].2 := by
  unfold pairS
  rw [List.take_succ_eq_append_getElem hj, List.flatMap_append]
  simp

theorem perm_parts (ks : List (List UInt8)) : ∀ (T : List Rw), ks.Nodup → (∀ r ∈ T, r.1 ∈ ks) → T.Perm (ks.flatMap (fun k => T.filter (fun r => r.1 == k))) := by
  induction ks with
  | nil =>
    intro T _ h
    cases T with
    | nil => exact .refl _
    | cons r T => exact absurd (h r List.mem_cons_self) (by simp)
  | cons k ks ih =>
    intro T hnd h
    obtain ⟨hk, hnd⟩ := List.nodup_cons.1 hnd
    have h1 := ih (T.filter (fun r => !(r.1 == k))) hnd (fun r hr => by
      have hr' := List.mem_filter.1 hr
      rcases List.mem_cons.1 (h r hr'.1) with e | e
      · have := hr'.2
        simp [e] at this
      · exact e)
    have h2 : ks.flatMap (fun k' => (T.filter (fun r => !(r.1 == k))).filter (fun r => r.1 == k')) = ks.flatMap (fun k' => T.filter (fun r => r.1 == k')) := by
      rw [List.flatMap_def, List.flatMap_def]
      congr 1
      refine List.map_congr_left fun k' hk' => ?_
      rw [List.filter_filter]
      refine List.filter_congr fun r _ => ?_
      by_cases e : r.1 = k'
      · have hne : ¬ k' = k := fun e2 => hk (by rw [← e2]; exact hk')
        simp [e, hne]
      · simp [e]
    rw [h2] at h1
    rw [List.flatMap_cons]
    exact (List.filter_append_perm (fun r : Rw => r.1 == k) T).symm.trans (h1.append_left _)

theorem MInv.parts {T : List Rw} {ss : List Src} (h : MInv false T ss) : T.Perm (ss.flatMap (fun s => s.lines.map (rowR s.lab))) := by
  have h1 := perm_parts (ss.map (·.lab)) T h.nodup (fun r hr => by
    obtain ⟨s, hs, e⟩ := h.all r hr
    exact List.mem_map.2 ⟨s, hs, e⟩)
  have h2 : ((ss.map (·.lab)).map (fun k => T.filter (fun r => r.1 == k))) = ss.map (fun s => s.lines.map (rowR s.lab)) := by
    rw [List.map_map]
    exact List.map_congr_left (fun s hs => h.part s hs)
  rw [List.flatMap_def, h2] at h1
  rw [List.flatMap_def]
  exact h1

theorem pairS_sel (kind by_ key lab k : List UInt8) (lines : List Ln) (hkey : ∀ y, keyL by_ (rowR lab y) = key) :
    (selP (pairS kind key lines) k).map (fun x => x.2) = (((lines.map (rowR lab)).filter (fun r => keyL by_ r == k)).filter (inB kind)).map (fun r => r.2.2) := by
  induction lines with
  | nil => rfl
  | cons y lines ih =>
    unfold pairS selP at ih ⊢
    rw [List.flatMap_cons, List.filter_append, List.map_append, ih, List.map_cons, List.filter_cons, hkey y]
    unfold pairK
    by_cases e : (key == k) = true
    · rw [if_pos e, List.filter_cons]
      by_cases hm : kind = meanT ∧ numB y.2 = false
      · have hi : ¬ inB kind (rowR lab y) = true := by simp [inB, rowR, hm]
        rw [if_pos hm, if_neg hi]
        rfl
      · have hi : inB kind (rowR lab y) = true := by
          unfold inB rowR
          rw [decide_eq_false hm]
          rfl
        rw [if_neg hm, if_pos hi, List.map_cons, List.filter_cons, if_pos e]
        rfl
    · rw [if_neg e]
      split
      · rfl
      · rw [List.filter_cons, if_neg e]
        rfl

theorem pairsL_sel (kind by_ k : List UInt8) (ss : List Src) (hkey : ∀ s ∈ ss, ∀ y, keyL by_ (rowR s.lab y) = valueP by_ (cutL 44 s.lab)) :
    (selP (pairsL kind by_ ss) k).map (fun x => x.2) = (((ss.flatMap (fun s => s.lines.map (rowR s.lab))).filter (fun r => keyL by_ r == k)).filter (inB kind)).map (fun r => r.2.2) := by
  induction ss with
  | nil => rfl
  | cons s ss ih =>
    have ih' := ih fun x hx => hkey x (List.mem_cons_of_mem _ hx)
    have h1 := pairS_sel kind by_ _ s.lab k s.lines (hkey s List.mem_cons_self)
    unfold pairsL selP at ih' ⊢
    unfold selP at h1
    rw [List.flatMap_cons, List.filter_append, List.map_append, ih', h1, List.flatMap_cons, List.filter_append, List.filter_append, List.map_append]

theorem pairL_name {p : List UInt8} (h : (pairL p).2.2 = true) : (pairL p).1 ≠ [] := by
  intro e
  unfold pairL at h e
  split at h
  · rename_i a b hab
    rw [hab] at e
    simp only at e
    subst e
    simp [wordB] at h
  · simp at h

theorem valueL_none (L : List (List UInt8)) (h : ∀ p ∈ L, (pairL p).2.2 = true) : valueL [] L = [] := by
  induction L with
  | nil => rfl
  | cons x L ih =>
    have h1 := pairL_name (h x List.mem_cons_self)
    rw [valueL, if_neg (by simpa using h1), ih fun p hp => h p (List.mem_cons_of_mem _ hp)]

theorem labels_pairs {lab : List UInt8} (h : labelsB lab = true) : ∀ p ∈ cutL 44 lab, (pairL p).2.2 = true := by
  refine labelsGo_pairs _ true [] ?_
  unfold labelsB at h
  revert h
  cases labelsGo true [] (cutL 44 lab) <;> simp

theorem key_value {lab : List UInt8} (h : labelsB lab = true) (by_ : List UInt8) (y : Ln) : keyL by_ (rowR lab y) = valueP by_ (cutL 44 lab) := by
  rw [valueP_labels h]
  unfold keyL rowR
  split
  · rename_i e
    rw [e, valueL_none _ (labels_pairs h)]
  · rfl

/-- what is known of the sources -/
structure SrcFine (ss : List Src) : Prop where
  labs : ∀ s ∈ ss, labelsB s.lab = true ∧ s.lab.length ≤ 1048576
  lines : ∀ s ∈ ss, ∀ y ∈ s.lines, y.2.length ≤ 40
  cnt : cntL ss ≤ 300
  six : ss.length ≤ 6

theorem SrcFine.of {ps : List PA} {S : List Strm} {L : List Rw} (h : RelA ps S L) (hf : Fine S L) (q : Qry) (fr tt : Int) (ss : List Src) (hss : ss.map (fun s => (s.lab, s.lines)) = srcL q fr tt ps) : SrcFine ss := by
  have hmem : ∀ s ∈ ss, ∃ a ∈ ps, s.lab = a.1 ∧ s.lines = a.2.2.filter (lineB q fr tt) := by
    intro s hs
    have : (s.lab, s.lines) ∈ srcL q fr tt ps := by rw [← hss]; exact List.mem_map.2 ⟨s, hs, rfl⟩
    obtain ⟨a, ha, e⟩ := List.mem_map.1 this
    simp only [Prod.mk.injEq] at e
    exact ⟨a, (List.mem_filter.1 ha).1, e.1.symm, e.2.symm⟩
  refine ⟨?_, ?_, ?_, ?_⟩
  · intro s hs
    obtain ⟨a, ha, e1, -⟩ := hmem s hs
    rw [e1]
    exact hf.labs (a.1, a.2.1) ((h.mem _).2 ⟨a, ha, rfl⟩)
  · intro s hs y hy
    obtain ⟨a, ha, -, e2⟩ := hmem s hs
    rw [e2] at hy
    have hy := (List.mem_filter.1 hy).1
    rw [h.lines a ha] at hy
    obtain ⟨r, hr, rfl⟩ := List.mem_map.1 hy
    exact (hf.lines r (List.mem_filter.1 hr).1).1
  · have hp := (MInv.of_asked false h q fr tt ss hss).parts.length_eq
    have hl : (askedL q.ms q.fs fr tt L).length ≤ L.length := askedL_len _ _ _ _ _
    have hm := h.many
    have e : (ss.flatMap (fun s => s.lines.map (rowR s.lab))).length = cntL ss := by
      unfold cntL
      rw [List.length_flatMap]
      congr 1
      refine List.map_congr_left fun s _ => ?_
      rw [List.length_map]
    rw [e] at hp
    have hp' : (askedL q.ms q.fs fr tt L).length = cntL ss := hp
    omega
  · have h1 := congrArg List.length hss
    rw [List.length_map] at h1
    rw [h1, srcL, List.length_map]
    refine Nat.le_trans (List.length_filter_le _ _) ?_
    rw [← h.len]
    exact h.six

/-- the groups' samples are the document's -/
theorem meas_same {ps : List PA} {S : List Strm} {L : List Rw} (h : RelA ps S L) (hf : Fine S L) (q : Qry) (fr tt : Int) (ss : List Src) (hss : ss.map (fun s => (s.lab, s.lines)) = srcL q fr tt ps) (hk : measB q.meas = true) (gs : List Grp) (hg : GOk gs (pairsL q.meas q.by_ ss)) :
    smpsL q (askedL q.ms q.fs fr tt L) (keysL q.by_ (askedL q.ms q.fs fr tt L)) = gs.map (smpG q.meas q.span) := by
  have hsf := SrcFine.of h hf q fr tt ss hss
  have hpt : (askedL q.ms q.fs fr tt L).Perm (ss.flatMap (fun s => s.lines.map (rowR s.lab))) := (MInv.of_asked false h q fr tt ss hss).parts
  have hsel := fun k => pairsL_sel q.meas q.by_ k ss (fun s hs y => key_value (hsf.labs s hs).1 q.by_ y)
  generalize askedL q.ms q.fs fr tt L = T at *
  have hgr : ∀ k, ((selP (pairsL q.meas q.by_ ss) k).map (fun x => x.2)).Perm (((grpL q.by_ T k).filter (inB q.meas)).map (fun r => r.2.2)) := fun k => by
    rw [hsel k]
    exact (((hpt.filter _).filter _).map _).symm
  by_cases hm : q.meas = meanT
  · refine smps_mean hg.inv hm fun k => ?_
    have := hgr k
    have e : inB q.meas = fun r => numB r.2.2 := by
      funext r
      unfold inB
      cases hb : numB r.2.2 <;> simp [hm]
    rw [e] at this
    exact this
  · refine smps_plain hg.inv ?_ fun k => ?_
    · unfold measB at hk
      simp only [Bool.or_eq_true, beq_iff_eq] at hk
      rcases hk with ((e | e) | e) | e
      · exact .inl e
      · exact .inr (.inl e)
      · exact .inr (.inr e)
      · exact absurd e hm
    · have := hgr k
      rw [List.filter_eq_self.2 (fun r _ => by simp [inB, hm])] at this
      exact this

/-- a measure is one of four -/
theorem meas_kind (l : List UInt8) (h : ((parseL l).2.2.meas == []) = false) : measB (parseL l).2.2.meas = true := by
  have e : (parseL l).2.2 = (anyI (toks l 0)).2.2 := rfl
  rw [e] at h ⊢
  generalize toks l 0 = ts at *
  by_cases h0 : ((tokAt ts 0).k == 0) = true
  · have e0 : anyI ts = measI ts := by unfold anyI; rw [if_pos h0]
    rw [e0] at h ⊢
    by_cases h1 : ((tokAt ts 0).k == 0 && measB (tokAt ts 0).text) = false
    · unfold measI at h; rw [if_pos h1] at h; simp [emptyQ] at h
    · by_cases h2 : markB ts 1 [40] = false
      · unfold measI at h; rw [if_neg h1, if_pos h2] at h; simp [emptyQ] at h
      · by_cases h3 : (rowsI ts 2).2.1 = false
        · unfold measI at h; rw [if_neg h1, if_neg h2, if_pos h3] at h; simp [emptyQ] at h
        · by_cases h4 : (spanI ts (rowsI ts 2).1).2.1 = false
          · unfold measI at h; rw [if_neg h1, if_neg h2, if_neg h3, if_pos h4] at h; simp [emptyQ] at h
          · by_cases h5 : markB ts (spanI ts (rowsI ts 2).1).1 [41] = false
            · unfold measI at h; rw [if_neg h1, if_neg h2, if_neg h3, if_neg h4, if_pos h5] at h; simp [emptyQ] at h
            · unfold measI
              rw [if_neg h1, if_neg h2, if_neg h3, if_neg h4, if_neg h5]
              have h1' := h1
              rw [h0, Bool.true_and] at h1'
              simpa using h1'
  · unfold anyI at h
    rw [if_neg h0] at h
    simp at h

end Go.Proofs.YtbljamcdaoofbaaGreatDoor

/- The groups beside the sources, while lines come in. -/
namespace Go.Proofs.YtbljamcdaoofbaaGreatDoor
open Go.RowKit

/-- the groups lie at gb, what came in is P; nothing else that lay there has turned -/
def MW (w4 : World) (gb : Nat) (kind : List UInt8) (span : Nat) (P : List KL) (wr : World) : Prop :=
  ∃ vg gs, GroupsAt wr w4.heap.size gb kind span vg gs ∧ GOk gs P ∧ Moved (fun b => b = gb ∨ w4.heap.size ≤ b) w4 wr

theorem MW.start {w4 : World} {base gb : Nat} {kind : List UInt8} {span : Nat} (h : GroupsAt w4 base gb kind span (.slice none 0 0) []) : MW w4 gb kind span [] w4 :=
  ⟨_, [], ⟨h.block, World.ownsRow_nil _ _ _ _⟩, GOk.empty, Moved.refl _ _⟩

theorem MW.below {w4 wr w' : World} {gb : Nat} {kind : List UInt8} {span : Nat} {P : List KL} (h : MW w4 gb kind span P wr) (hb : Below wr.heap.size wr w') : MW w4 gb kind span P w' := by
  obtain ⟨vg, gs, h1, h2, h3⟩ := h
  exact ⟨vg, gs, h1.below hb, h2, h3.ofB hb⟩

theorem MW.block {w4 wr : World} {gb : Nat} {kind : List UInt8} {span : Nat} {P : List KL} (h : MW w4 gb kind span P wr) {b : Nat} (hb : b < w4.heap.size) (hne : b ≠ gb) : wr.heap[b]? = w4.heap[b]? := by
  obtain ⟨vg, gs, h1, h2, h3⟩ := h
  refine h3.block b hb ?_
  rintro (e | e)
  · exact hne e
  · omega

theorem MW.cell {w4 wr : World} {gb : Nat} {kind : List UInt8} {span : Nat} {P : List KL} (h : MW w4 gb kind span P wr) {a : Addr} (hb : a.block < w4.heap.size) (hne : a.block ≠ gb) : wr.cell? a = w4.cell? a :=
  World.cell?_of_block (h.block hb hne)

theorem MW.size {w4 wr : World} {gb : Nat} {kind : List UInt8} {span : Nat} {P : List KL} (h : MW w4 gb kind span P wr) : w4.heap.size ≤ wr.heap.size := by
  obtain ⟨vg, gs, h1, h2, h3⟩ := h
  exact h3.size

theorem MW.bel {w4 wr : World} {gb base : Nat} {kind : List UInt8} {span : Nat} {P : List KL} (h : MW w4 gb kind span P wr) (h1 : base ≤ gb) (h2 : gb < w4.heap.size) : Below base w4 wr := by
  obtain ⟨vg, gs, -, -, h3⟩ := h
  exact ⟨h3.os, h3.tape, h3.output, h3.size, fun b hb => h3.block b (by omega) (by rintro (e | e) <;> omega)⟩

theorem madd_any {w4 w : World} {gb : Nat} {kind : List UInt8} {span : Nat} {P : List KL} (key line : List UInt8) (h : MW w4 gb kind span P w) (hP : P.length ≤ 299) (hl : line.length ≤ 40) :
    Calls Tryz.prog 54 #[.pointer (some ⟨gb, 0, none⟩), .string ⟨key.toArray⟩, .string ⟨line.toArray⟩] w fun e w' => e = .returned (.tuple #[]) ∧ MW w4 gb kind span (P ++ pairK kind key line) w' := by
  obtain ⟨vg, gs, h1, h2, h3⟩ := h
  refine (gadd_any key line h1 h3.size (by have := h2.len; omega) h2.inv.rise hl (h2.put (by omega) key)).mono ?_
  rintro e w' ⟨rfl, vg', h1', hm⟩
  exact ⟨rfl, vg', _, h1', h2.add kind key line hl, h3.tr hm⟩

/-- lines of a source lie elsewhere -/
theorem lines_ne {w : World} {gb g o : Nat} {kind : List UInt8} {span : Nat} {s : Src} {ty : TypeId} (hb : w.heap[gb]? = some (.cells #[SV kind, .int .i64 span, .slice none 0 0] ty (0, 0))) (hn : s.lines ≠ []) (hc : ∀ j, j < s.lines.length * 2 → w.cell? ⟨g, o + j, none⟩ = (s.lines.flatMap cellsN)[j]?) : g ≠ gb := by
  rintro rfl
  cases hl : s.lines with
  | nil => exact hn hl
  | cons y ys =>
    rw [hl] at hc
    have h0 := hc 0 (by simp)
    have h1 := hc 1 (by simp; omega)
    simp [World.cell?, hb, cellsN] at h0 h1
    match o with
    | 0 => simp at h0
    | 1 => simp at h1
    | o + 2 => simp at h1

end Go.Proofs.YtbljamcdaoofbaaGreatDoor
