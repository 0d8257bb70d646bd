/- The reference's Streams and Drop. -/
import Derived.Test.YtbljamcdaoofbaaGreatDoorRefPush
namespace Go.Proofs.YtbljamcdaoofbaaGreatDoor
open Go.RowKit

/-- where a text goes among sorted ones: behind the last that is less -/
def putAt (l : List (List UInt8)) (s : List UInt8) : Nat :=
  (List.range l.length).foldl (fun at_ i => if Op.bytesLess (l.getD i []) s = true then i + 1 else at_) 0
def putL (l : List (List UInt8)) (s : List UInt8) : List (List UInt8) :=
  if l.contains s then l else l.take (putAt l s) ++ [s] ++ l.drop (putAt l s)

def putK (l : List (List UInt8)) (s : List UInt8) (k : Nat) : Nat :=
  (List.range k).foldl (fun at_ i => if Op.bytesLess (l.getD i []) s = true then i + 1 else at_) 0
theorem putK_succ (l : List (List UInt8)) (s : List UInt8) (k : Nat) : putK l s (k + 1) = if Op.bytesLess (l.getD k []) s = true then k + 1 else putK l s k := by
  simp [putK, List.range_succ, List.foldl_append]
theorem putK_le (l : List (List UInt8)) (s : List UInt8) (k : Nat) : putK l s k ≤ k := by
  induction k with
  | zero => simp [putK]
  | succ k ih => rw [putK_succ]; split <;> omega

theorem map_SV_at (l : List (List UInt8)) (k : Nat) (h : k < l.length) : (l.map SV)[k]? = some (SV l[k]) := by simp [h]

theorem ownsRow_base {w : World} {base base' : Nat} {e : TypeId} {size : Nat} {v : Value} {n : Nat} {xs : List Value} (h : w.ownsRow base e size v n xs) (hb : base' ≤ base) : w.ownsRow base' e size v n xs := by
  refine ⟨h.1, ?_⟩
  rcases h.2 with h2 | ⟨g, cap, cur, hv, hg, r⟩
  · exact .inl h2
  · exact .inr ⟨g, cap, cur, hv, by omega, r⟩

theorem map_SV_one (l : List (List UInt8)) : ∀ u ∈ l.map SV, u.oneCell' = true := by
  intro u hu
  obtain ⟨x, -, rfl⟩ := List.mem_map.1 hu
  rfl

theorem addr_add (g o j : Nat) : (⟨g, o, none⟩ : Addr).add j = ⟨g, o + j, none⟩ := by unfold Addr.add; split <;> simp_all

theorem take_cells {w : World} {g : Nat} {l : List (List UInt8)} (h : ∀ j u, (l.map SV)[j]? = some u → w.cell? ⟨g, j, none⟩ = some u) (a : Nat) :
    ∀ ad, some (⟨g, 0, none⟩ : Addr) = some ad → ∀ j u, ((l.take a).map SV)[j]? = some u → w.cell? (ad.add j) = some u := by
  rintro ad ⟨⟩ j u hj
  rw [addr_add, Nat.zero_add]
  refine h j u ?_
  rw [List.map_take, List.getElem?_take] at hj
  split at hj
  · exact hj
  · cases hj

set_option maxRecDepth 10000 in
set_option maxHeartbeats 2000000 in
theorem put_l (l : List (List UInt8)) (v : Value) (s : List UInt8) (w : World) (B : Nat) (hB : B ≤ w.heap.size) (hown : w.ownsRow B 9 1 v l.length (l.map SV)) (hl : l.length ≤ 6) :
    Calls Tryz.prog 118 #[v, .string ⟨s.toArray⟩] w fun e w' => ∃ v', e = .returned v' ∧ w'.ownsRow B 9 1 v' (putL l s).length ((putL l s).map SV) ∧ Below w.heap.size w w' := by
  obtain ⟨i0, hi, hz0, hz1, hz2⟩ := info_parts Tryz.info9
  have hown0 := hown
  obtain ⟨ao, cap, rfl, hnc, hcm, hnil, hao, hcell, hfz⟩ := owns_form hown
  clear hown hfz
  unfold maxLen at hcm
  have HN := hide hnil
  have HA := hide hao
  have HC := hide hcell
  clear hnil hao hcell
  go_enter Tryz.func118, Tryz.ntmps118
  go_wp2
  go_loop [5, 6] (fun a i => ∃ k : Nat, k ≤ l.length ∧ i = .int .i64 k ∧ a = .int .i64 (putK l s k) ∧ (∀ j (h : j < l.length), j < k → (l[j] == s) = false)) (fun _ i => l.length - (intOf i).toNat)
  case atStart => exact ⟨0, Nat.zero_le _, rfl, rfl, fun j _ h => by omega⟩
  case round =>
    obtain ⟨k, hk, rfl, rfl, hno⟩ := hrel
    have HNO := hide hno
    clear hno
    by_cases hlt : k < l.length
    · obtain ⟨⟨g, o, sp⟩, rfl⟩ : ∃ a, ao = some a := by
        cases ao with
        | none => have := (unhide HN rfl).1; omega
        | some a => exact ⟨a, rfl⟩
      obtain ⟨ho, hsp, hBg, hgw⟩ := unhide HA _ rfl
      simp only at ho hsp hgw hBg
      subst ho hsp
      have hc := unhide HC _ rfl k (by omega)
      rw [map_SV_at l k hlt] at hc
      have HP := hide (putK_succ l s k)
      have hpk := putK_le l s k
      go_wp2
      · go_ret
        refine ⟨_, rfl, ?_, Below.refl _ _⟩
        have hm : s ∈ l := by
          have e : l[k] = s := by simpa using ‹(l[k] == s) = true›
          rw [← e]; exact List.getElem_mem hlt
        have hp : putL l s = l := by rw [putL, if_pos (by simpa using hm)]
        rw [hp]
        exact hown0
      · go_round
        case rel =>
          refine ⟨k + 1, by omega, by go_num, ?_, fun j hj hjk => ?_⟩
          · rw [unhide HP, if_pos (by simpa [hlt] using ‹Op.bytesLess l[k] s = true›)]; go_num
          · by_cases e : j = k
            · subst e; assumption
            · exact unhide HNO j hj (by omega)
        case measure => simp [intOf]; omega
      · go_round
        case rel =>
          refine ⟨k + 1, by omega, by go_num, ?_, fun j hj hjk => ?_⟩
          · rw [unhide HP, if_neg (by simpa [hlt] using ‹Op.bytesLess l[k] s = false›)]
          · by_cases e : j = k
            · subst e; assumption
            · exact unhide HNO j hj (by omega)
        case measure => simp [intOf]; omega
    · have hkl : k = l.length := by omega
      have hnm : l.contains s = false := by
        rw [Bool.eq_false_iff]
        intro h
        have hm : s ∈ l := by simpa using h
        obtain ⟨j, hj, e⟩ := List.getElem_of_mem hm
        have := unhide HNO j hj (by omega)
        simp [e] at this
      have hpk := putK_le l s k
      have HP := hide (show putL l s = l.take (putK l s k) ++ [s] ++ l.drop (putK l s k) by rw [putL, hnm, hkl]; rfl)
      generalize putK l s k = a at *
      clear hnm HNO
      cases ao with
      | none =>
        have hl0 : l = [] := List.eq_nil_of_length_eq_zero (unhide HN rfl).1
        have ha0 : a = 0 := by subst hl0; simp at hkl; omega
        have hc0 : cap = 0 := (unhide HN rfl).2
        subst hl0 ha0 hc0
        clear hkl
        go_upto_region 11 with (at_builtin; refine wpList_append_at _ rfl (.tmp 29) (.tmp 32) 33 rfl w.heap.size 9 i0 (.string ByteArray.empty) 1 16 Tryz.underlying33 hi hz0 hz1 hz2 rfl (by decide) (.slice none 0 0) _ _ rfl (World.ownsRow_nil _ _ _ _) none 0 0 [] rfl rfl (fun _ => ⟨rfl, rfl⟩) (by intro _ e; cases e) (by intro u hu; cases hu) (by unfold maxLen; omega) (by omega) (Nat.le_refl _) ?_; intro v1 w1 hown1 hgrow1 hwh1)
        simp only [Nat.zero_add, List.nil_append] at hown1
        have hb1 : Below w.heap.size w w1 := (Below.refl _ w).grown hgrow1 (Nat.le_refl _) (fun k hk => by simp [Value.ownBlock] at hk)
        clear hgrow1 hwh1
        have hs1 := hb1.size
        go_upto_region 12 with (at_builtin; refine wpList_append_at _ rfl (.tmp 34) (.tmp 36) 33 rfl w.heap.size 9 i0 (.string ByteArray.empty) 1 16 Tryz.underlying33 hi hz0 hz1 hz2 rfl (by decide) v1 _ _ rfl (hown1.alloc _) (some ⟨w1.heap.size, 0, none⟩) 1 1 [SV s] rfl rfl (by intro e; cases e) (cells_new w1 _ _) (by intro u hu; simp at hu; subst hu; rfl) (by unfold maxLen; omega) (by omega) (by simp; omega) ?_; intro v2 w2 hown2 hgrow2 hwh2)
        have hb2 : Below w.heap.size w w2 := (hb1.alloc hs1 _).grown hgrow2 (by simp; omega) (fun k hk => (hown1.lt k hk).1)
        clear hgrow2 hwh2
        have hs2 := hb2.size
        go_wp2_with (at_builtin; refine wpList_append_at _ rfl (.tmp 38) (.tmp 41) 33 rfl w.heap.size 9 i0 (.string ByteArray.empty) 1 16 Tryz.underlying33 hi hz0 hz1 hz2 rfl (by decide) v2 _ _ rfl hown2 none 0 0 [] rfl rfl (fun _ => ⟨rfl, rfl⟩) (by intro _ e; cases e) (by intro u hu; cases hu) (by unfold maxLen; omega) (by omega) (by omega) ?_; intro v3 w3 hown3 hgrow3 hwh3)
        go_ret
        refine ⟨v3, rfl, ?_, hb2.grown hgrow3 hs2 (fun k hk => (hown2.lt k hk).1)⟩
        rw [unhide HP]
        exact ownsRow_base hown3 hB
      | some ad =>
        obtain ⟨g, o, sp⟩ := ad
        obtain ⟨ho, hsp, hBg, hgw⟩ := unhide HA _ rfl
        simp only at ho hsp hgw hBg
        subst ho hsp
        have hkeep : ∀ j u, (l.map SV)[j]? = some u → w.cell? ⟨g, j, none⟩ = some u := fun j u hu => by
          have hj : j < l.length := by
            have := (List.getElem?_eq_some_iff.1 hu).1
            simpa using this
          exact (unhide HC _ rfl j (by omega)).trans hu
        have HK := hide hkeep
        clear hkeep
        go_upto_region 11 with (at_builtin; refine wpList_append_at _ rfl (.tmp 29) (.tmp 32) 33 rfl w.heap.size 9 i0 (.string ByteArray.empty) 1 16 Tryz.underlying33 hi hz0 hz1 hz2 rfl (by decide) (.slice none 0 0) _ _ rfl (World.ownsRow_nil _ _ _ _) (some ⟨g, 0, none⟩) a cap ((l.take a).map SV) rfl (by simp; omega) (by intro e; cases e) (take_cells (unhide HK) a) (map_SV_one _) (by unfold maxLen; omega) (by omega) (Nat.le_refl _) ?_; intro v1 w1 hown1 hgrow1 hwh1)
        simp only [Nat.zero_add, List.nil_append] at hown1
        have hb1 : Below w.heap.size w w1 := (Below.refl _ w).grown hgrow1 (Nat.le_refl _) (fun k hk => by simp [Value.ownBlock] at hk)
        clear hgrow1 hwh1
        have hs1 := hb1.size
        go_upto_region 12 with (at_builtin; refine wpList_append_at _ rfl (.tmp 34) (.tmp 36) 33 rfl w.heap.size 9 i0 (.string ByteArray.empty) 1 16 Tryz.underlying33 hi hz0 hz1 hz2 rfl (by decide) v1 _ _ rfl (hown1.alloc _) (some ⟨w1.heap.size, 0, none⟩) 1 1 [SV s] rfl rfl (by intro e; cases e) (cells_new w1 _ _) (by intro u hu; simp at hu; subst hu; rfl) (by unfold maxLen; omega) (by omega) (by simp; omega) ?_; intro v2 w2 hown2 hgrow2 hwh2)
        have hb2 : Below w.heap.size w w2 := (hb1.alloc hs1 _).grown hgrow2 (by simp; omega) (fun k hk => (hown1.lt k hk).1)
        clear hgrow2 hwh2
        have hs2 := hb2.size
        go_wp2_with (at_builtin; refine wpList_append_at _ rfl (.tmp 38) (.tmp 41) 33 rfl w.heap.size 9 i0 (.string ByteArray.empty) 1 16 Tryz.underlying33 hi hz0 hz1 hz2 rfl (by decide) v2 _ _ rfl hown2 _ _ _ ((l.drop a).map SV) rfl ?c1 ?c2 ?c3 (map_SV_one _) (by unfold maxLen; omega) (by omega) (by omega) ?_; rotate_right; intro v3 w3 hown3 hgrow3 hwh3)
        · go_ret
          refine ⟨v3, rfl, ?_, hb2.grown hgrow3 hs2 (fun k hk => (hown2.lt k hk).1)⟩
          rw [unhide HP]
          have hn : (l.take a ++ [s] ++ l.drop a).length = a + 1 + (l.length - a) := by simp; omega
          rw [hn, List.map_append, List.map_append]
          exact ownsRow_base hown3 hB
        · go_ret
          refine ⟨v3, rfl, ?_, hb2.grown hgrow3 hs2 (fun k hk => (hown2.lt k hk).1)⟩
          rw [unhide HP]
          have hn : (l.take a ++ [s] ++ l.drop a).length = a + 1 + (l.length - a) := by simp; omega
          rw [hn, List.map_append, List.map_append]
          exact ownsRow_base hown3 hB
        · intro j u hu
          have := (List.getElem?_eq_some_iff.1 hu).1
          omega
        · intro j u hu
          rw [hb2.cell (by exact hgw)]
          refine unhide HK _ _ ?_
          rw [List.getElem?_map, hu]
          rfl

end Go.Proofs.YtbljamcdaoofbaaGreatDoor
