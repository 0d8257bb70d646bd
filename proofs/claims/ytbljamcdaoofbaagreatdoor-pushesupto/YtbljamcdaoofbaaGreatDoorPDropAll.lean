/- The program's Drop over all its streams. -/
import Derived.Test.YtbljamcdaoofbaaGreatDoorPDrop
namespace Go.Proofs.YtbljamcdaoofbaaGreatDoor
open Go.RowKit

/-- a stream without the lines below a time -/
def cutN (b : Int) (n : PA) : PA := (n.1, n.2.1, n.2.2.filter (fun x => decide (b ≤ x.1)))

def goneAll (ns : List Node) (b : Int) : Nat := (ns.map (fun n => goneN n.lines b)).sum

theorem goneAll_snoc (ns : List Node) (b : Int) (k : Nat) (h : k < ns.length) : goneAll (ns.take (k + 1)) b = goneAll (ns.take k) b + goneN ns[k].lines b := by
  unfold goneAll
  rw [List.take_succ_eq_append_getElem h, List.map_append, List.sum_append]
  simp
theorem goneN_le (ls : List Ln) (b : Int) : goneN ls b ≤ ls.length := List.length_filter_le _ _
theorem goneAll_le (ns : List Node) (b : Int) : goneAll ns b ≤ total ns := by
  induction ns with
  | nil => simp [goneAll, total]
  | cons n ns ih =>
    have := goneN_le n.lines b
    simp only [goneAll, total, List.map_cons, List.sum_cons] at ih ⊢
    omega

def dropI (ns : List Node) (b : Int) : Int := if timeB b = true then (goneAll ns b : Int) else 0
def dropE (b : Int) : Int := if timeB b = true then 0 else 2
def dropA (ns : List Node) (b : Int) : List PA := if timeB b = true then (ns.map absN).map (cutN b) else ns.map absN
theorem drop_no {b : Int} (h : timeB b = false) (ns : List Node) : dropI ns b = 0 ∧ dropE b = 2 ∧ dropA ns b = ns.map absN := by simp [dropI, dropE, dropA, h]
theorem drop_yes {b : Int} (h : timeB b = true) (ns : List Node) : dropI ns b = goneAll ns b ∧ dropE b = 0 ∧ dropA ns b = (ns.map absN).map (cutN b) := by simp [dropI, dropE, dropA, h]
theorem ret_two {a b c d : Int} (h1 : a = c) (h2 : b = d) : Ending.returned (.tuple #[.int .i64 a, .int .i64 b]) = .returned (.tuple #[.int .i64 c, .int .i64 d]) := by rw [h1, h2]

theorem cut_step (X Y : List PA) (f : PA → PA) (k : Nat) (h : k < X.length) (hY : Y = (X.take k).map f ++ X.drop k) : Y[k]? = some X[k] ∧ Y.set k (f X[k]) = (X.take (k + 1)).map f ++ X.drop (k + 1) := by
  have hl : ((X.take k).map f).length = k := by simp; omega
  rw [hY, List.drop_eq_getElem_cons h]
  constructor
  · rw [List.getElem?_append_right (by omega), hl, Nat.sub_self]
    rfl
  · rw [List.set_append_right _ _ (by omega), hl, Nat.sub_self, List.set_cons_zero, List.take_succ_eq_append_getElem h, List.map_append]
    simp

set_option maxRecDepth 10000 in
set_option maxHeartbeats 4000000 in
theorem drop_any {w : World} {F : Nat → Prop} {p : Nat} {ns : List Node} {va : Value} (b : Int) (h : StoreAt w F p ns va) (hn : ns.length ≤ 6) (ht : total ns ≤ 300) (hs : ∀ n ∈ ns, InOrder n.lines) :
    Calls Tryz.prog 22 #[.pointer (some ⟨p, 0, none⟩), .int .i64 b] w fun e w' =>
      e = .returned (.tuple #[.int .i64 (dropI ns b), .int .i64 (dropE b)]) ∧ (∃ ns' va', StoreAt w' (Plus F w) p ns' va' ∧ ns'.map absN = dropA ns b) ∧ Moved F w w' := by
  obtain ⟨ao, cap, rfl, hnc, hcm, hnil, hao, hcell, hfz⟩ := owns_form h.row
  obtain ⟨c0, fz⟩ := cell_of_block1 h.block
  have HN := hide hnil
  have HH := hide h
  have HS := hide hs
  clear hnil hao hcell hfz fz h hs
  go_enter Tryz.func22, Tryz.ntmps22
  go_wp2_with fail
  refine (isTime_any b _).mono ?_
  rintro e w1 ⟨rfl, rfl⟩
  cases hb : timeB b with
  | false =>
    have HB := hide (drop_no hb ns)
    clear hb
    go_wp2
    go_ret2
    exact ⟨ret_two (unhide HB).1.symm (unhide HB).2.1.symm, ⟨ns, _, (unhide HH).weaken (fun _ hf => .inl hf), (unhide HB).2.2.symm⟩, Moved.refl _ _⟩
  | true =>
    have HB := hide (drop_yes hb ns)
    clear hb
    go_wp2
    go_loopw [6, 17] (fun s i wr => ∃ (k : Nat) (ns' : List Node), k ≤ ns.length ∧ i = .int .i64 k ∧ s = .int .i64 (goneAll (ns.take k) b) ∧ StoreAt wr (Plus F w1) p ns' (.slice ao ns.length cap) ∧ ns'.length = ns.length ∧
        (∀ j (h1 : j < ns.length) (h2 : j < ns'.length), k ≤ j → ns'[j].lines = ns[j].lines) ∧ ns'.map absN = ((ns.map absN).take k).map (cutN b) ++ (ns.map absN).drop k ∧ Moved F w1 wr) (fun _ i _ => ns.length - (intOf i).toNat)
    case atStart => exact ⟨0, ns, by omega, rfl, rfl, (unhide HH).weaken (fun _ hf => .inl hf), rfl, fun _ _ _ _ => rfl, by simp, Moved.refl _ _⟩
    case round =>
      obtain ⟨k, ns', hk, rfl, rfl, hst, hlen, hls, habs, hmv⟩ := hrel
      have HST := hide hst
      have HLS := hide hls
      have HAB := hide habs
      have HMV := hide hmv
      clear hls habs hmv
      by_cases hlt : k < ns.length
      · obtain ⟨ao', cap', he, -, -, hnil', hao', hcell', -⟩ := owns_form hst.row
        rw [hlen] at he
        simp only [Value.slice.injEq, true_and] at he
        obtain ⟨rfl, rfl⟩ := he
        obtain ⟨⟨g, o, sp⟩, rfl⟩ : ∃ a, ao = some a := by
          cases ao with
          | none => have := (unhide HN rfl).1; omega
          | some a => exact ⟨a, rfl⟩
        obtain ⟨ho, hsp, -, hgw⟩ := hao' _ rfl
        simp only at ho hsp hgw
        subst ho hsp
        have hlt' : k < ns'.length := by omega
        have hc := hcell' _ rfl k (by omega)
        rw [ptr_at hlt'] at hc
        have hN := (unhide HST).nodes _ (List.getElem_mem hlt')
        have hlk := unhide HLS k hlt hlt' (Nat.le_refl _)
        have hll : ns'[k].lines.length ≤ 300 := by
          rw [hlk]
          exact Nat.le_trans (total_le ns _ (List.getElem_mem hlt)) ht
        have hio : InOrder ns'[k].lines := by rw [hlk]; exact unhide HS _ (List.getElem_mem hlt)
        have HND := hide hN
        have HLK := hide hlk
        have hg1 := goneAll_le (ns.take k) b
        have hg2 := goneAll_le (ns.take (k + 1)) b
        have hg3 := total_take ns k
        have hg4 := total_take ns (k + 1)
        rw [goneAll_snoc ns b k hlt] at hg2
        have hg5 : goneN ns'[k].lines b = goneN ns[k].lines b := by rw [hlk]
        have HG5 := hide hg5
        have hg6 : goneAll (ns.take k) b + goneN ns'[k].lines b ≤ 300 := by rw [hg5]; omega
        clear hN hlk hcell' hao' hnil' hst hg5 hg2
        go_wp2_with (go_at_call 44; refine (sDrop_any b (unhide HND) hll hio).mono ?_; rintro e w4 ⟨rfl, v4, hN4, hv4, hm4⟩)
        go_roundw
        case rel =>
          have hst4 := (unhide HST).set hlt' hN4 rfl hv4 hm4
          have hsz := (unhide HMV).size
          refine ⟨k + 1, _, by omega, by go_num, ?_, hst4.weaken ?_, by simpa using hlen, ?_, ?_, ?_⟩
          · rw [goneAll_snoc ns b k hlt, unhide HG5]; go_num
          · rintro c ((hc | hc) | hc)
            · exact .inl hc
            · exact .inr hc
            · exact .inr (by omega)
          · intro j h1 h2 hkj
            rw [List.length_set] at h2
            rw [List.getElem_set, if_neg (by omega)]
            exact unhide HLS j h1 h2 (by omega)
          · have hX : k < (ns.map absN).length := by simpa using hlt
            obtain ⟨hx1, hx2⟩ := cut_step (ns.map absN) (ns'.map absN) (cutN b) k hX (unhide HAB)
            rw [List.map_set, ← hx2]
            have hx3 : absN ns'[k] = (ns.map absN)[k] := by
              rw [List.getElem?_map, List.getElem?_eq_getElem hlt', Option.map_some] at hx1
              exact Option.some.inj hx1
            rw [← hx3]
            rfl
          · refine (unhide HMV).trans hm4 ?_
            intro c hc
            have hin := (unhide HST).inN _ (List.getElem_mem hlt')
            rcases hc with rfl | hc
            · exact hin.1
            · exact hin.2 c hc
        case measure => simp [intOf]; omega
      · go_wp2
        go_ret2
        refine ⟨ret_two ?_ (unhide HB).2.1.symm, ⟨ns', _, unhide HST, ?_⟩, unhide HMV⟩
        · rw [List.take_of_length_le (by omega), (unhide HB).1]
        · rw [(unhide HB).2.2, unhide HAB, List.take_of_length_le (by simp; omega), List.drop_of_length_le (by simp; omega)]
          simp

end Go.Proofs.YtbljamcdaoofbaaGreatDoor
