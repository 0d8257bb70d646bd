/- The program's Streams. -/
import Derived.Test.YtbljamcdaoofbaaGreatDoorPPush2
namespace Go.Proofs.YtbljamcdaoofbaaGreatDoor
open Go.RowKit

theorem map_lab_snoc (ns : List Node) (k : Nat) (h : k < ns.length) : (ns.take (k + 1)).map (fun n => n.lab) = (ns.take k).map (fun n => n.lab) ++ [ns[k].lab] := by
  rw [List.take_succ_eq_append_getElem h, List.map_append]
  rfl

set_option maxRecDepth 10000 in
set_option maxHeartbeats 2000000 in
theorem streams_any {w : World} {F : Nat → Prop} {p : Nat} {ns : List Node} {va : Value} (h : StoreAt w F p ns va) (hn : ns.length ≤ 6) :
    Calls Tryz.prog 16 #[.pointer (some ⟨p, 0, none⟩)] w fun e w' => ∃ v, e = .returned v ∧ w'.ownsRow w.heap.size 9 1 v ns.length ((ns.map (fun n => n.lab)).map SV) ∧ Below w.heap.size w w' := by
  obtain ⟨i0, hi0, hz0, hs0, hb0⟩ := info_parts Tryz.info9
  obtain ⟨ao, cap, rfl, hnc, hcm, hnil, hao, hcell, hfz⟩ := owns_form h.row
  obtain ⟨c0, fz⟩ := cell_of_block1 h.block
  have hplt := h.lt
  have HN := hide hnil
  have HA := hide hao
  have HC := hide hcell
  have HH := hide h
  clear hnil hao hcell hfz h fz
  go_enter Tryz.func16, Tryz.ntmps16
  go_upto_region 2 with (at_make; refine wpList_make_own _ rfl (.const (.int .i64 0)) (.tmp 10) 33 rfl w.heap.size 9 i0 (.string ByteArray.empty) 1 Tryz.underlying33 hi0 hz0 hs0 .i64 .i64 _ ns.length rfl rfl rfl (by rw [hb0]; omega) (by unfold maxLen; omega) (Nat.le_refl _) ?_; intro w1 hown1 hgr1)
  have hb1 : Below w.heap.size w w1 := (Below.refl _ w).grown hgr1 (Nat.le_refl _) (fun k hk => by cases hk)
  have c1 : w1.cell? ⟨p, 0, none⟩ = some (.slice ao ns.length cap) := (hb1.cell (by exact hplt)).trans c0
  clear hgr1
  go_wp2
  go_loopw [3, 17] (fun v i wr => ∃ k : Nat, k ≤ ns.length ∧ i = .int .i64 k ∧ wr.ownsRow w.heap.size 9 1 v k (((ns.take k).map (fun n => n.lab)).map SV) ∧ Below w.heap.size w wr) (fun _ i _ => ns.length - (intOf i).toNat)
  case atStart => exact ⟨0, by omega, rfl, by simpa using hown1, hb1⟩
  case round =>
    obtain ⟨k, hk, rfl, hown, hbel⟩ := hrel
    have hsz := hbel.size
    by_cases hlt : k < ns.length
    · obtain ⟨⟨g, o, sp⟩, rfl⟩ : ∃ a, ao = some a := by
        cases ao with
        | none => have := (unhide HN rfl).1; omega
        | some a => exact ⟨a, rfl⟩
      obtain ⟨ho, hsp, -, hgw⟩ := unhide HA _ rfl
      simp only at ho hsp hgw
      subst ho hsp
      have hc : wr.cell? ⟨g, k, none⟩ = some (.pointer (some ⟨ns[k].blk, 0, none⟩)) := by
        rw [hbel.cell (by exact hgw), unhide HC _ rfl k (by omega), ptr_at hlt]
      have hN := (unhide HH).nodes _ (List.getElem_mem hlt)
      have HND := hide (hN.keep (w' := wr) (hbel.block _ hN.lt) (fun g hg => hbel.block g (ownsRow_type hN.row hg).1))
      have HS := hide (map_lab_snoc ns k hlt)
      obtain ⟨ar, capr, rfl, -, -, -, -, -, -⟩ := owns_form hown
      clear hN
      go_wp2_with (first
        | (go_at_call 38; refine (sLabels_any (unhide HND)).mono ?_; rintro e w' ⟨rfl, rfl⟩)
        | (at_builtin; refine wpList_append_at _ rfl (.tmp 21) (.tmp 24) 33 rfl w.heap.size 9 i0 (.string ByteArray.empty) 1 16 Tryz.underlying33 hi0 hz0 hs0 hb0 rfl (by decide) _ _ _ rfl (hown.alloc _) (some ⟨_, 0, none⟩) 1 1 [SV ns[k].lab] rfl rfl (by intro e; cases e) (cells_new _ _ _) (by intro u hu; simp at hu; subst hu; rfl) (by unfold maxLen; omega) (by omega) (by simp; omega) ?_; intro v4 w4 hown4 hgrow4 hwh4; have hb4 := (hbel.alloc hsz (.cells #[SV ns[k].lab] 9)).grown hgrow4 (by simp; omega) (fun k hk => (hown.lt k hk).1); clear hgrow4 hwh4))
      go_roundw
      case rel =>
        refine ⟨k + 1, by omega, by go_num, ?_, hb4⟩
        rw [unhide HS, List.map_append]
        exact hown4
      case measure => simp [intOf]; omega
    · go_wp2
      go_ret
      have hkn : k = ns.length := by omega
      subst hkn
      refine ⟨_, rfl, ?_, hbel⟩
      rw [List.take_of_length_le (by omega)] at hown
      exact hown

end Go.Proofs.YtbljamcdaoofbaaGreatDoor
