/- Texts RefRest, RefDrop, PStore, joined. -/
import Derived.Test.YtbljamcdaoofbaaGreatDoorLabelToRefPush
/- The reference's Streams and Drop. -/
namespace Go.Proofs.YtbljamcdaoofbaaGreatDoor
open Go.RowKit

/-- where a text goes among sorted ones: behind the last that is less -/
def putAt (l : List (List UInt8)) (s : List UInt8) : Nat :=
  (List.range l.length).foldl (fun at_ i => if Op.bytesLess (l.getD i []) s = true then i + 1 else at_) 0
def putL (l : List (List UInt8)) (s : List UInt8) : List (List UInt8) :=
  if l.contains s then l else l.take (putAt l s) ++ [s] ++ l.drop (putAt l s)

def putK (l : List (List UInt8)) (s : List UInt8) (k : Nat) : Nat :=
  (List.range k).foldl (fun at_ i => if Op.bytesLess (l.getD i []) s = true then i + 1 else at_) 0
theorem putK_succ (l : List (List UInt8)) (s : List UInt8) (k : Nat) : putK l s (k + 1) = if Op.bytesLess (l.getD k []) s = true then k + 1 else putK l s k := by
  simp [putK, List.range_succ, List.foldl_append]
theorem putK_le (l : List (List UInt8)) (s : List UInt8) (k : Nat) : putK l s k ≤ k := by
  induction k with
  | zero => simp [putK]
  | succ k ih => rw [putK_succ]; split <;> omega

theorem map_SV_at (l : List (List UInt8)) (k : Nat) (h : k < l.length) : (l.map SV)[k]? = some (SV l[k]) := by simp [h]

theorem ownsRow_base {w : World} {base base' : Nat} {e : TypeId} {size : Nat} {v : Value} {n : Nat} {xs : List Value} (h : w.ownsRow base e size v n xs) (hb : base' ≤ base) : w.ownsRow base' e size v n xs := by
  refine ⟨h.1, ?_⟩
  rcases h.2 with h2 | ⟨g, cap, cur, hv, hg, r⟩
  · exact .inl h2
  · exact .inr ⟨g, cap, cur, hv, by omega, r⟩

theorem map_SV_one (l : List (List UInt8)) : ∀ u ∈ l.map SV, u.oneCell' = true := by
  intro u hu
  obtain ⟨x, -, rfl⟩ := List.mem_map.1 hu
  rfl

theorem addr_add (g o j : Nat) : (⟨g, o, none⟩ : Addr).add j = ⟨g, o + j, none⟩ := by unfold Addr.add; split <;> simp_all

theorem take_cells {w : World} {g : Nat} {l : List (List UInt8)} (h : ∀ j u, (l.map SV)[j]? = some u → w.cell? ⟨g, j, none⟩ = some u) (a : Nat) :
    ∀ ad, some (⟨g, 0, none⟩ : Addr) = some ad → ∀ j u, ((l.take a).map SV)[j]? = some u → w.cell? (ad.add j) = some u := by
  rintro ad ⟨⟩ j u hj
  rw [addr_add, Nat.zero_add]
  refine h j u ?_
  rw [List.map_take, List.getElem?_take] at hj
  split at hj
  · exact hj
  · cases hj

set_option maxRecDepth 10000 in
set_option maxHeartbeats 2000000 in
theorem put_l (l : List (List UInt8)) (v : Value) (s : List UInt8) (w : World) (B : Nat) (hB : B ≤ w.heap.size) (hown : w.ownsRow B 9 1 v l.length (l.map SV)) (hl : l.length ≤ 6) :
    Calls Tryz.prog 118 #[v, .string ⟨s.toArray⟩] w fun e w' => ∃ v', e = .returned v' ∧ w'.ownsRow B 9 1 v' (putL l s).length ((putL l s).map SV) ∧ Below w.heap.size w w' := by
  obtain ⟨i0, hi, hz0, hz1, hz2⟩ := info_parts Tryz.info9
  have hown0 := hown
  obtain ⟨ao, cap, rfl, hnc, hcm, hnil, hao, hcell, hfz⟩ := owns_form hown
  clear hown hfz
  unfold maxLen at hcm
  have HN := hide hnil
  have HA := hide hao
  have HC := hide hcell
  clear hnil hao hcell
  go_enter Tryz.func118, Tryz.ntmps118
  go_wp2
  go_loop [5, 6] (fun a i => ∃ k : Nat, k ≤ l.length ∧ i = .int .i64 k ∧ a = .int .i64 (putK l s k) ∧ (∀ j (h : j < l.length), j < k → (l[j] == s) = false)) (fun _ i => l.length - (intOf i).toNat)
  case atStart => exact ⟨0, Nat.zero_le _, rfl, rfl, fun j _ h => by omega⟩
  case round =>
    obtain ⟨k, hk, rfl, rfl, hno⟩ := hrel
    have HNO := hide hno
    clear hno
    by_cases hlt : k < l.length
    · obtain ⟨⟨g, o, sp⟩, rfl⟩ : ∃ a, ao = some a := by
        cases ao with
        | none => have := (unhide HN rfl).1; omega
        | some a => exact ⟨a, rfl⟩
      obtain ⟨ho, hsp, hBg, hgw⟩ := unhide HA _ rfl
      simp only at ho hsp hgw hBg
      subst ho hsp
      have hc := unhide HC _ rfl k (by omega)
      rw [map_SV_at l k hlt] at hc
      have HP := hide (putK_succ l s k)
      have hpk := putK_le l s k
      go_wp2
      · go_ret
        refine ⟨_, rfl, ?_, Below.refl _ _⟩
        have hm : s ∈ l := by
          have e : l[k] = s := by simpa using ‹(l[k] == s) = true›
          rw [← e]; exact List.getElem_mem hlt
        have hp : putL l s = l := by rw [putL, if_pos (by simpa using hm)]
        rw [hp]
        exact hown0
      · go_round
        case rel =>
          refine ⟨k + 1, by omega, by go_num, ?_, fun j hj hjk => ?_⟩
          · rw [unhide HP, if_pos (by simpa [hlt] using ‹Op.bytesLess l[k] s = true›)]; go_num
          · by_cases e : j = k
            · subst e; assumption
            · exact unhide HNO j hj (by omega)
        case measure => simp [intOf]; omega
      · go_round
        case rel =>
          refine ⟨k + 1, by omega, by go_num, ?_, fun j hj hjk => ?_⟩
          · rw [unhide HP, if_neg (by simpa [hlt] using ‹Op.bytesLess l[k] s = false›)]
          · by_cases e : j = k
            · subst e; assumption
            · exact unhide HNO j hj (by omega)
        case measure => simp [intOf]; omega
    · have hkl : k = l.length := by omega
      have hnm : l.contains s = false := by
        rw [Bool.eq_false_iff]
        intro h
        have hm : s ∈ l := by simpa using h
        obtain ⟨j, hj, e⟩ := List.getElem_of_mem hm
        have := unhide HNO j hj (by omega)
        simp [e] at this
      have hpk := putK_le l s k
      have HP := hide (show putL l s = l.take (putK l s k) ++ [s] ++ l.drop (putK l s k) by rw [putL, hnm, hkl]; rfl)
      generalize putK l s k = a at *
      clear hnm HNO
      cases ao with
      | none =>
        have hl0 : l = [] := List.eq_nil_of_length_eq_zero (unhide HN rfl).1
        have ha0 : a = 0 := by subst hl0; simp at hkl; omega
        have hc0 : cap = 0 := (unhide HN rfl).2
        subst hl0 ha0 hc0
        clear hkl
        go_upto_region 11 with (at_builtin; refine wpList_append_at _ rfl (.tmp 29) (.tmp 32) 33 rfl w.heap.size 9 i0 (.string ByteArray.empty) 1 16 Tryz.underlying33 hi hz0 hz1 hz2 rfl (by decide) (.slice none 0 0) _ _ rfl (World.ownsRow_nil _ _ _ _) none 0 0 [] rfl rfl (fun _ => ⟨rfl, rfl⟩) (by intro _ e; cases e) (by intro u hu; cases hu) (by unfold maxLen; omega) (by omega) (Nat.le_refl _) ?_; intro v1 w1 hown1 hgrow1 hwh1)
        simp only [Nat.zero_add, List.nil_append] at hown1
        have hb1 : Below w.heap.size w w1 := (Below.refl _ w).grown hgrow1 (Nat.le_refl _) (fun k hk => by simp [Value.ownBlock] at hk)
        clear hgrow1 hwh1
        have hs1 := hb1.size
        go_upto_region 12 with (at_builtin; refine wpList_append_at _ rfl (.tmp 34) (.tmp 36) 33 rfl w.heap.size 9 i0 (.string ByteArray.empty) 1 16 Tryz.underlying33 hi hz0 hz1 hz2 rfl (by decide) v1 _ _ rfl (hown1.alloc _) (some ⟨w1.heap.size, 0, none⟩) 1 1 [SV s] rfl rfl (by intro e; cases e) (cells_new w1 _ _) (by intro u hu; simp at hu; subst hu; rfl) (by unfold maxLen; omega) (by omega) (by simp; omega) ?_; intro v2 w2 hown2 hgrow2 hwh2)
        have hb2 : Below w.heap.size w w2 := (hb1.alloc hs1 _).grown hgrow2 (by simp; omega) (fun k hk => (hown1.lt k hk).1)
        clear hgrow2 hwh2
        have hs2 := hb2.size
        go_wp2_with (at_builtin; refine wpList_append_at _ rfl (.tmp 38) (.tmp 41) 33 rfl w.heap.size 9 i0 (.string ByteArray.empty) 1 16 Tryz.underlying33 hi hz0 hz1 hz2 rfl (by decide) v2 _ _ rfl hown2 none 0 0 [] rfl rfl (fun _ => ⟨rfl, rfl⟩) (by intro _ e; cases e) (by intro u hu; cases hu) (by unfold maxLen; omega) (by omega) (by omega) ?_; intro v3 w3 hown3 hgrow3 hwh3)
        go_ret
        refine ⟨v3, rfl, ?_, hb2.grown hgrow3 hs2 (fun k hk => (hown2.lt k hk).1)⟩
        rw [unhide HP]
        exact ownsRow_base hown3 hB
      | some ad =>
        obtain ⟨g, o, sp⟩ := ad
        obtain ⟨ho, hsp, hBg, hgw⟩ := unhide HA _ rfl
        simp only at ho hsp hgw hBg
        subst ho hsp
        have hkeep : ∀ j u, (l.map SV)[j]? = some u → w.cell? ⟨g, j, none⟩ = some u := fun j u hu => by
          have hj : j < l.length := by
            have := (List.getElem?_eq_some_iff.1 hu).1
            simpa using this
          exact (unhide HC _ rfl j (by omega)).trans hu
        have HK := hide hkeep
        clear hkeep
        go_upto_region 11 with (at_builtin; refine wpList_append_at _ rfl (.tmp 29) (.tmp 32) 33 rfl w.heap.size 9 i0 (.string ByteArray.empty) 1 16 Tryz.underlying33 hi hz0 hz1 hz2 rfl (by decide) (.slice none 0 0) _ _ rfl (World.ownsRow_nil _ _ _ _) (some ⟨g, 0, none⟩) a cap ((l.take a).map SV) rfl (by simp; omega) (by intro e; cases e) (take_cells (unhide HK) a) (map_SV_one _) (by unfold maxLen; omega) (by omega) (Nat.le_refl _) ?_; intro v1 w1 hown1 hgrow1 hwh1)
        simp only [Nat.zero_add, List.nil_append] at hown1
        have hb1 : Below w.heap.size w w1 := (Below.refl _ w).grown hgrow1 (Nat.le_refl _) (fun k hk => by simp [Value.ownBlock] at hk)
        clear hgrow1 hwh1
        have hs1 := hb1.size
        go_upto_region 12 with (at_builtin; refine wpList_append_at _ rfl (.tmp 34) (.tmp 36) 33 rfl w.heap.size 9 i0 (.string ByteArray.empty) 1 16 Tryz.underlying33 hi hz0 hz1 hz2 rfl (by decide) v1 _ _ rfl (hown1.alloc _) (some ⟨w1.heap.size, 0, none⟩) 1 1 [SV s] rfl rfl (by intro e; cases e) (cells_new w1 _ _) (by intro u hu; simp at hu; subst hu; rfl) (by unfold maxLen; omega) (by omega) (by simp; omega) ?_; intro v2 w2 hown2 hgrow2 hwh2)
        have hb2 : Below w.heap.size w w2 := (hb1.alloc hs1 _).grown hgrow2 (by simp; omega) (fun k hk => (hown1.lt k hk).1)
        clear hgrow2 hwh2
        have hs2 := hb2.size
        go_wp2_with (at_builtin; refine wpList_append_at _ rfl (.tmp 38) (.tmp 41) 33 rfl w.heap.size 9 i0 (.string ByteArray.empty) 1 16 Tryz.underlying33 hi hz0 hz1 hz2 rfl (by decide) v2 _ _ rfl hown2 _ _ _ ((l.drop a).map SV) rfl ?c1 ?c2 ?c3 (map_SV_one _) (by unfold maxLen; omega) (by omega) (by omega) ?_; rotate_right; intro v3 w3 hown3 hgrow3 hwh3)
        · go_ret
          refine ⟨v3, rfl, ?_, hb2.grown hgrow3 hs2 (fun k hk => (hown2.lt k hk).1)⟩
          rw [unhide HP]
          have hn : (l.take a ++ [s] ++ l.drop a).length = a + 1 + (l.length - a) := by simp; omega
          rw [hn, List.map_append, List.map_append]
          exact ownsRow_base hown3 hB
        · go_ret
          refine ⟨v3, rfl, ?_, hb2.grown hgrow3 hs2 (fun k hk => (hown2.lt k hk).1)⟩
          rw [unhide HP]
          have hn : (l.take a ++ [s] ++ l.drop a).length = a + 1 + (l.length - a) := by simp; omega
          rw [hn, List.map_append, List.map_append]
          exact ownsRow_base hown3 hB
        · intro j u hu
          have := (List.getElem?_eq_some_iff.1 hu).1
          omega
        · intro j u hu
          rw [hb2.cell (by exact hgw)]
          refine unhide HK _ _ ?_
          rw [List.getElem?_map, hu]
          rfl

end Go.Proofs.YtbljamcdaoofbaaGreatDoor

/- The reference's Streams and Drop. -/
namespace Go.Proofs.YtbljamcdaoofbaaGreatDoor
open Go.RowKit

def streamsR (S : List Strm) : List (List UInt8) := S.foldl (fun l x => putL l x.1) []

theorem putL_len (l : List (List UInt8)) (s : List UInt8) : (putL l s).length ≤ l.length + 1 := by
  unfold putL
  split
  · omega
  · simp; omega

theorem streamsR_snoc (S : List Strm) (k : Nat) (h : k < S.length) : streamsR (S.take (k + 1)) = putL (streamsR (S.take k)) S[k].1 := by
  rw [List.take_succ_eq_append_getElem h, streamsR, List.foldl_append]
  rfl
theorem streamsR_len (S : List Strm) : (streamsR S).length ≤ S.length := by
  suffices ∀ l : List (List UInt8), (S.foldl (fun l x => putL l x.1) l).length ≤ l.length + S.length by simpa [streamsR] using this []
  induction S with
  | nil => intro l; simp
  | cons x S ih =>
    intro l
    rw [List.foldl_cons]
    have := ih (putL l x.1)
    have := putL_len l x.1
    simp only [List.length_cons]
    omega

set_option maxRecDepth 10000 in
set_option maxHeartbeats 2000000 in
theorem refStreams_any {F : Nat → Prop} {p : Nat} {S : List Strm} {L : List Rw} {vS vL : Value} (w : World) (hr : RefAt w F p S L vS vL) (hS : S.length ≤ 6) :
    Calls Tryz.prog 91 #[.pointer (some ⟨p, 0, none⟩)] w fun e w' => ∃ v, e = .returned v ∧ w'.ownsRow w.heap.size 9 1 v (streamsR S).length ((streamsR S).map SV) ∧ Below w.heap.size w w' := by
  have hpl : p < w.heap.size := (Array.getElem?_eq_some_iff.1 hr.block).1
  obtain ⟨ao, cap, rfl, hnc, hcm, hnil, hao, hcell, hfz⟩ := owns_form hr.rowS
  obtain ⟨c0, -, -⟩ := cell_of_block2 hr.block
  have HN := hide hnil
  have HA := hide hao
  have HC := hide hcell
  have HC0 := hide c0
  clear hr hfz hnil hao hcell c0
  go_enter Tryz.func91, Tryz.ntmps91
  go_wp2
  go_loopw [3, 4] (fun v i wr => ∃ k : Nat, k ≤ S.length ∧ i = .int .i64 k ∧ wr.ownsRow w.heap.size 9 1 v (streamsR (S.take k)).length ((streamsR (S.take k)).map SV) ∧ Below w.heap.size w wr) (fun _ i _ => S.length - (intOf i).toNat)
  case atStart => exact ⟨0, Nat.zero_le _, rfl, World.ownsRow_nil _ _ _ _, Below.refl _ _⟩
  case round =>
    obtain ⟨k, hk, rfl, hown, hbel⟩ := hrel
    have cr : wr.cell? ⟨p, 0, none⟩ = some (.slice ao S.length cap) := (hbel.cell (by exact hpl)).trans (unhide HC0)
    by_cases hlt : k < S.length
    · obtain ⟨⟨g, o, sp⟩, rfl⟩ : ∃ a, ao = some a := by
        cases ao with
        | none => have := (unhide HN rfl).1; omega
        | some a => exact ⟨a, rfl⟩
      obtain ⟨ho, hsp, -, hgw⟩ := unhide HA _ rfl
      simp only at ho hsp hgw
      subst ho hsp
      have hc : wr.cell? ⟨g, k * 2, none⟩ = some (SV S[k].1) := by
        rw [hbel.cell (by exact hgw), unhide HC _ rfl (k * 2) (by omega), (cellsS_at S k hlt).1]
      have hlen := streamsR_len (S.take k)
      rw [List.length_take] at hlen
      have HS := hide (streamsR_snoc S k hlt)
      generalize streamsR (S.take k) = R at *
      have hsz := hbel.size
      obtain ⟨ar, capr, rfl, -, -, -, -, -, -⟩ := owns_form hown
      go_wp2_with fail
      refine (put_l R _ S[k].1 _ w.heap.size hsz hown (by omega)).mono ?_
      rintro e w1 ⟨v', rfl, hown1, hb1⟩
      go_wp2
      go_roundw
      case rel => exact ⟨k + 1, by omega, by go_num, by rw [unhide HS]; exact hown1, hbel.trans (hb1.mono hsz)⟩
      case measure => simp [intOf]; omega
    · go_wp2
      go_ret
      refine ⟨_, rfl, ?_, hbel⟩
      rw [List.take_of_length_le (by omega)] at hown
      exact hown

def dropR (L : List Rw) (b : Int) : Int × Int × List Rw :=
  if timeB b = false then (0, 2, L) else ((L.length : Int) - (L.filter (fun x => decide (b ≤ x.2.1))).length, 0, L.filter (fun x => decide (b ≤ x.2.1)))

theorem filter_snoc (L : List Rw) (b : Int) (k : Nat) (h : k < L.length) : (L.take (k + 1)).filter (fun x => decide (b ≤ x.2.1)) = (L.take k).filter (fun x => decide (b ≤ x.2.1)) ++ if b ≤ L[k].2.1 then [L[k]] else [] := by
  rw [List.take_succ_eq_append_getElem h, List.filter_append]
  congr 1
  by_cases hb : b ≤ L[k].2.1 <;> simp [hb]

theorem RefAt.setL {w w0 : World} {F : Nat → Prop} {p : Nat} {S : List Strm} {L L' : List Rw} {vS vL v' : Value} (h : RefAt w F p S L vS vL) (hb : Below w.heap.size w w0)
    (ho : w0.ownsRow w.heap.size 38 3 v' L'.length (L'.flatMap cellsR)) :
    RefAt (w0.setCell ⟨p, 1, none⟩ v') (Plus F w) p S L' vS v' ∧ Moved F w (w0.setCell ⟨p, 1, none⟩ v') := by
  have hpl := (Array.getElem?_eq_some_iff.1 h.block).1
  have hp2 : w0.heap[p]? = some (.cells #[vS, vL] 114 (0, 0)) := by rw [hb.block p hpl]; exact h.block
  refine ⟨⟨block2_set1 hp2 v', ?_, ?_, .inl h.inF, fun g hg => .inl (h.inS g hg), fun g hg => .inr (ho.lt g hg).1⟩, (Moved.of_below hb).setCell (.inl h.inF) _⟩
  · refine ownsRow_same h.rowS fun g hgo => ?_
    obtain ⟨hgl, cur, hc⟩ := ownsRow_type h.rowS hgo
    rw [Go.RowKit.Below.heap_setCell _ _ _ _ (ne_of_type hc h.block (by decide)), hb.block g hgl]
  · refine ownsRow_same (ownsRow_base ho (Nat.zero_le _)) fun g hgo => Go.RowKit.Below.heap_setCell _ _ _ _ ?_
    have := (ho.lt g hgo).1
    show g ≠ p
    omega

set_option maxRecDepth 10000 in
set_option maxHeartbeats 4000000 in
theorem refDrop_any {F : Nat → Prop} {p : Nat} {S : List Strm} {L : List Rw} {vS vL : Value} (b : Int) (w : World) (hr : RefAt w F p S L vS vL) (hL : L.length ≤ 300) :
    Calls Tryz.prog 59 #[.pointer (some ⟨p, 0, none⟩), .int .i64 b] w fun e w' => e = .returned (.tuple #[.int .i64 (dropR L b).1, .int .i64 (dropR L b).2.1]) ∧ (∃ vS' vL', RefAt w' (Plus F w) p S (dropR L b).2.2 vS' vL') ∧ Moved F w w' := by
  have hpl : p < w.heap.size := (Array.getElem?_eq_some_iff.1 hr.block).1
  obtain ⟨i1, hi1, hz1, hs1, hb1⟩ := info_parts Tryz.info38
  generalize hres : dropR L b = res
  have HR := hide hres
  clear hres
  have hr0 := hr
  obtain ⟨ao, cap, rfl, hnc, hcm, hnil, hao, hcell, hfz⟩ := owns_form hr.rowL
  obtain ⟨-, c1, fp⟩ := cell_of_block2 hr.block
  have HN := hide hnil
  have HA := hide hao
  have HC := hide hcell
  have HC1 := hide c1
  have HF := hide fp
  clear hr hfz hnil hao hcell c1 fp
  go_enter Tryz.func59, Tryz.ntmps59
  go_wp2_with fail
  refine (times_any b _).mono ?_
  rintro e w1 ⟨rfl, rfl⟩
  cases h2 : timeB b with
  | false =>
    go_wp2
    go_ret2
    rw [← unhide HR, dropR, if_pos h2]
    exact ⟨rfl, ⟨_, _, hr0.weaken (fun _ h => .inl h)⟩, Moved.refl _ _⟩
  | true =>
    have hd : dropR L b = ((L.length : Int) - (L.filter (fun x => decide (b ≤ x.2.1))).length, 0, L.filter (fun x => decide (b ≤ x.2.1))) := by rw [dropR, if_neg (by simp [h2])]
    have HD := hide (hd.symm.trans (unhide HR))
    clear hd HR h2
    go_wp2
    go_loopw [7, 8] (fun v i wr => ∃ k : Nat, k ≤ L.length ∧ i = .int .i64 k ∧ wr.ownsRow w1.heap.size 38 3 v ((L.take k).filter (fun x => decide (b ≤ x.2.1))).length (((L.take k).filter (fun x => decide (b ≤ x.2.1))).flatMap cellsR) ∧ Below w1.heap.size w1 wr) (fun _ i _ => L.length - (intOf i).toNat)
    case atStart => exact ⟨0, Nat.zero_le _, rfl, World.ownsRow_nil _ _ _ _, Below.refl _ _⟩
    case round =>
      obtain ⟨k, hk, rfl, hown, hbel⟩ := hrel
      have cr : wr.cell? ⟨p, 1, none⟩ = some (.slice ao L.length cap) := (hbel.cell (by exact hpl)).trans (unhide HC1)
      have hsz := hbel.size
      by_cases hlt : k < L.length
      · obtain ⟨⟨g, o, sp⟩, rfl⟩ : ∃ a, ao = some a := by
          cases ao with
          | none => have := (unhide HN rfl).1; omega
          | some a => exact ⟨a, rfl⟩
        obtain ⟨ho, hsp, -, hgw⟩ := unhide HA _ rfl
        simp only at ho hsp hgw
        subst ho hsp
        obtain ⟨e0, e1, e2⟩ := cellsR_at L k hlt
        have hc0 : wr.cell? ⟨g, k * 3, none⟩ = some (SV L[k].1) := by
          rw [hbel.cell (by exact hgw), unhide HC _ rfl (k * 3) (by omega), e0]
        have hc1 : wr.cell? ⟨g, k * 3 + 1, none⟩ = some (.int .i64 L[k].2.1) := by
          rw [hbel.cell (by exact hgw), unhide HC _ rfl (k * 3 + 1) (by omega), e1]
        have hc2 : wr.cell? ⟨g, k * 3 + 2, none⟩ = some (SV L[k].2.2) := by
          rw [hbel.cell (by exact hgw), unhide HC _ rfl (k * 3 + 2) (by omega), e2]
        clear e0 e1 e2
        have HS := hide (filter_snoc L b k hlt)
        have hfl := List.length_filter_le (fun x : Rw => decide (b ≤ x.2.1)) (L.take k)
        rw [List.length_take] at hfl
        generalize (L.take k).filter (fun x => decide (b ≤ x.2.1)) = R at *
        by_cases hb : b ≤ L[k].2.1
        · go_wp2_with (at_builtin; refine wpList_append_at _ rfl (.tmp 33) (.tmp 41) 28 rfl w1.heap.size 38 i1 (.agg #[.string ByteArray.empty, .int .i64 0, .string ByteArray.empty]) 3 40 Tryz.underlying28 hi1 hz1 hs1 hb1 rfl (by decide) _ _ _ rfl (hown.alloc _) (some ⟨wr.heap.size, 0, none⟩) 1 1 (cellsR L[k]) rfl rfl (by intro e; cases e) (cells_new wr _ _) (by intro u hu; simp [cellsR] at hu; rcases hu with rfl | rfl | rfl <;> rfl) (by unfold maxLen; omega) (by omega) (by simp; omega) ?_; intro v2 w4 hown4 hgrow4 hwh4; have hb4 := (hbel.alloc hsz (.cells (cellsR L[k]).toArray 38)).grown hgrow4 (by simp; omega) (fun k hk => (hown.lt k hk).1); clear hgrow4 hwh4)
          go_roundw
          case rel =>
            refine ⟨k + 1, by omega, by go_num, ?_, hb4⟩
            rw [unhide HS, if_pos hb, List.length_append, List.flatMap_append]
            simpa using hown4
          case measure => simp [intOf]; omega
        · go_wp2
          go_roundw
          case rel =>
            refine ⟨k + 1, by omega, by go_num, ?_, hbel⟩
            rw [unhide HS, if_neg (by omega), List.append_nil]
            exact hown
          case measure => simp [intOf]; omega
      · rw [List.take_of_length_le (by omega)] at hown
        have hfl := List.length_filter_le (fun x : Rw => decide (b ≤ x.2.1)) L
        obtain ⟨hrf, hmf⟩ := hr0.setL hbel hown
        have HRF := hide hrf
        have HMF := hide hmf
        have hf : wr.frozen? ⟨p, 1, none⟩ = false := (hbel.frozen (by exact hpl)).trans (unhide HF 1)
        generalize L.filter (fun x => decide (b ≤ x.2.1)) = R at *
        obtain ⟨ar, capr, rfl, -, -, -, -, -, -⟩ := owns_form hown
        clear hrf hmf hown
        go_wp2
        go_ret2
        rw [← unhide HD]
        exact ⟨rfl, ⟨_, _, unhide HRF⟩, unhide HMF⟩

end Go.Proofs.YtbljamcdaoofbaaGreatDoor

/- The program's store in memory; its small calls. -/
namespace Go.Proofs.YtbljamcdaoofbaaGreatDoor
open Go.RowKit

abbrev Ln := Int × List UInt8
def cellsN (x : Ln) : List Value := [.int .i64 x.1, SV x.2]

/-- a stream of the program: its block, its labels, the greatest time, its lines, the slice that holds them -/
structure Node where
  blk : Nat
  lab : List UInt8
  latest : Int
  lines : List Ln
  vl : Value

structure NodeAt (w : World) (n : Node) : Prop where
  block : w.heap[n.blk]? = some (.cells #[SV n.lab, .int .i64 n.latest, n.vl] 118 (0, 0))
  row : w.ownsRow 0 108 2 n.vl n.lines.length (n.lines.flatMap cellsN)

def ptr (n : Node) : Value := .pointer (some ⟨n.blk, 0, none⟩)

def apart (a b : Node) : Prop := a.blk ≠ b.blk ∧ ∀ g, a.vl.ownBlock = some g → b.vl.ownBlock ≠ some g

/-- The program's store lies at block p, with its streams ns; all its blocks are among F. -/
structure StoreAt (w : World) (F : Nat → Prop) (p : Nat) (ns : List Node) (va : Value) : Prop where
  block : w.heap[p]? = some (.cells #[va] 78 (0, 0))
  row : w.ownsRow 0 79 1 va ns.length (ns.map ptr)
  nodes : ∀ n ∈ ns, NodeAt w n
  apart : ns.Pairwise apart
  inF : F p
  inA : ∀ g, va.ownBlock = some g → F g
  inN : ∀ n ∈ ns, F n.blk ∧ ∀ g, n.vl.ownBlock = some g → F g

theorem NodeAt.lt {w : World} {n : Node} (h : NodeAt w n) : n.blk < w.heap.size := (Array.getElem?_eq_some_iff.1 h.block).1

theorem NodeAt.keep {w w' : World} {n : Node} (h : NodeAt w n) (hb : w'.heap[n.blk]? = w.heap[n.blk]?) (hr : ∀ g, n.vl.ownBlock = some g → w'.heap[g]? = w.heap[g]?) : NodeAt w' n :=
  ⟨by rw [hb]; exact h.block, ownsRow_same h.row hr⟩

theorem StoreAt.lt {w : World} {F : Nat → Prop} {p : Nat} {ns : List Node} {va : Value} (h : StoreAt w F p ns va) : p < w.heap.size := (Array.getElem?_eq_some_iff.1 h.block).1

theorem StoreAt.keep {w w' : World} {F : Nat → Prop} {p : Nat} {ns : List Node} {va : Value} (h : StoreAt w F p ns va)
    (hk : ∀ b, b < w.heap.size → F b → w'.heap[b]? = w.heap[b]?) : StoreAt w' F p ns va := by
  refine ⟨?_, ?_, ?_, h.apart, h.inF, h.inA, h.inN⟩
  · rw [hk p h.lt h.inF]; exact h.block
  · exact ownsRow_same h.row fun g hg => hk g (ownsRow_type h.row hg).1 (h.inA g hg)
  · intro n hn
    exact (h.nodes n hn).keep (hk _ (h.nodes n hn).lt (h.inN n hn).1) fun g hg => hk g (ownsRow_type (h.nodes n hn).row hg).1 ((h.inN n hn).2 g hg)

theorem StoreAt.weaken {w : World} {F G : Nat → Prop} {p : Nat} {ns : List Node} {va : Value} (h : StoreAt w F p ns va) (hFG : ∀ b, F b → G b) : StoreAt w G p ns va :=
  ⟨h.block, h.row, h.nodes, h.apart, hFG _ h.inF, fun g hg => hFG _ (h.inA g hg), fun n hn => ⟨hFG _ (h.inN n hn).1, fun g hg => hFG _ ((h.inN n hn).2 g hg)⟩⟩

theorem cell_of_block1 {w : World} {p : Nat} {v0 : Value} {t : TypeId} (h : w.heap[p]? = some (.cells #[v0] t (0, 0))) :
    w.cell? ⟨p, 0, none⟩ = some v0 ∧ (∀ j, w.frozen? ⟨p, j, none⟩ = false) :=
  ⟨by simp [World.cell?, h], fun j => by simp [World.frozen?, h]⟩
theorem cell_of_block3 {w : World} {p : Nat} {v0 v1 v2 : Value} {t : TypeId} (h : w.heap[p]? = some (.cells #[v0, v1, v2] t (0, 0))) :
    w.cell? ⟨p, 0, none⟩ = some v0 ∧ w.cell? ⟨p, 1, none⟩ = some v1 ∧ w.cell? ⟨p, 2, none⟩ = some v2 ∧ (∀ j, w.frozen? ⟨p, j, none⟩ = false) :=
  ⟨by simp [World.cell?, h], by simp [World.cell?, h], by simp [World.cell?, h], fun j => by simp [World.frozen?, h]⟩

theorem ptr_at {ns : List Node} {k : Nat} (h : k < ns.length) : (ns.map ptr)[k]? = some (.pointer (some ⟨ns[k].blk, 0, none⟩)) := by simp [h, ptr]

set_option maxHeartbeats 400000 in
theorem sLabels_any {w : World} {n : Node} (h : NodeAt w n) :
    Calls Tryz.prog 38 #[.pointer (some ⟨n.blk, 0, none⟩)] w fun e w' => e = .returned (.string ⟨n.lab.toArray⟩) ∧ w' = w := by
  obtain ⟨c0, c1, c2, fz⟩ := cell_of_block3 h.block
  go_enter Tryz.func38, Tryz.ntmps38
  go_wp2
  go_ret
  exact ⟨rfl, rfl⟩

set_option maxHeartbeats 400000 in
theorem sLen_any {w : World} {n : Node} (h : NodeAt w n) :
    Calls Tryz.prog 107 #[.pointer (some ⟨n.blk, 0, none⟩)] w fun e w' => e = .returned (.int .i64 n.lines.length) ∧ w' = w := by
  obtain ⟨c0, c1, c2, fz⟩ := cell_of_block3 h.block
  obtain ⟨ao, cap, hv, -, -, -, -, -, -⟩ := owns_form h.row
  rw [hv] at c2
  clear hv
  go_enter Tryz.func107, Tryz.ntmps107
  go_wp2
  go_ret
  exact ⟨rfl, rfl⟩

set_option maxHeartbeats 400000 in
theorem sTakes_any {w : World} {n : Node} (t : Int) (h : NodeAt w n) :
    Calls Tryz.prog 77 #[.pointer (some ⟨n.blk, 0, none⟩), .int .i64 t] w fun e w' => e = .returned (.bool (decide (n.latest ≤ t))) ∧ w' = w := by
  obtain ⟨c0, c1, c2, fz⟩ := cell_of_block3 h.block
  go_enter Tryz.func77, Tryz.ntmps77
  go_wp2
  go_ret
  exact ⟨rfl, rfl⟩

set_option maxHeartbeats 400000 in
theorem find1_any {w : World} {n : Node} (l : List UInt8) (h : NodeAt w n) :
    Calls Tryz.prog 75 #[.pointer (some ⟨n.blk, 0, none⟩), .string ⟨l.toArray⟩] w fun e w' => e = .returned (.int .i64 (Lib.compareBytes n.lab l)) ∧ w' = w := by
  go_enter Tryz.func75, Tryz.ntmps75
  go_wp2_with fail
  refine (sLabels_any h).mono ?_
  rintro e w1 ⟨rfl, rfl⟩
  go_wp2_with fail
  refine (compare_any n.lab l _).mono ?_
  rintro e w2 ⟨rfl, rfl⟩
  go_wp2
  go_ret
  exact ⟨rfl, rfl⟩

set_option maxRecDepth 10000 in
set_option maxHeartbeats 400000 in
theorem isTime_any (t : Int) (w : World) :
    Calls Tryz.prog 43 #[.int .i64 t] w fun e w' => e = .returned (.bool (timeB t)) ∧ w' = w := by
  by_cases h : 0 ≤ t
  all_goals
    go_enter Tryz.func43, Tryz.ntmps43
    go_wp2
    go_ret
    exact ⟨by simp [timeB, h]; try omega, rfl⟩

def checkL (l : List UInt8) (t : Int) (x : List UInt8) : Int :=
  if labelsB l = false then 1 else if timeB t = false then 2 else if 40 < x.length then 3 else 0

set_option maxRecDepth 10000 in
set_option maxHeartbeats 400000 in
theorem checkLine_any (l x : List UInt8) (t : Int) (w : World) (hl : l.length ≤ 1048576) (hx : x.length ≤ 1048576) :
    Calls Tryz.prog 45 #[.string ⟨l.toArray⟩, .int .i64 t, .string ⟨x.toArray⟩] w fun e w' => e = .returned (.int .i64 (checkL l t x)) ∧ ∃ n, w' = w.drewN n := by
  go_enter Tryz.func45, Tryz.ntmps45
  go_wp2_with fail
  refine (pValid_any l _ hl).mono ?_
  rintro e w1 ⟨rfl, n, rfl⟩
  rw [valid_labels]
  cases h1 : labelsB l with
  | false =>
    go_wp2
    go_ret
    exact ⟨ret_int (by rw [checkL, if_pos h1]), n, rfl⟩
  | true =>
    go_wp2_with fail
    refine (isTime_any t _).mono ?_
    rintro e w2 ⟨rfl, rfl⟩
    cases h2 : timeB t with
    | false =>
      go_wp2
      go_ret
      exact ⟨ret_int (by rw [checkL, if_neg (by simp [h1]), if_pos h2]), n, rfl⟩
    | true =>
      by_cases h3 : (40 : Int) < x.length
      · go_wp2
        go_ret
        exact ⟨ret_int (by rw [checkL, if_neg (by simp [h1]), if_neg (by simp [h2]), if_pos (by omega)]), n, rfl⟩
      · go_wp2
        go_ret
        exact ⟨ret_int (by rw [checkL, if_neg (by simp [h1]), if_neg (by simp [h2]), if_neg (by omega)]), n, rfl⟩

end Go.Proofs.YtbljamcdaoofbaaGreatDoor
