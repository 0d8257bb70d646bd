/- The program's Push, walked. -/
import Derived.Test.YtbljamcdaoofbaaGreatDoorPPush
namespace Go.Proofs.YtbljamcdaoofbaaGreatDoor
open Go.RowKit

abbrev PA := List UInt8 × Int × List Ln
def absN (n : Node) : PA := (n.lab, n.latest, n.lines)

def codeP (ns : List Node) (l : List UInt8) (t : Int) (x : List UInt8) : Int := if checkL l t x = 0 then roomC ns l t else checkL l t x

def pushedA (ns : List Node) (l : List UInt8) (t : Int) (x : List UInt8) : List PA :=
  if codeP ns l t x = 0 then
    if ∃ n ∈ ns, n.lab = l then (ns.map absN).set (place ns l) (l, t, ((ns.map absN).getD (place ns l) ([], 0, [])).2.2 ++ [(t, x)])
    else (ns.map absN).take (place ns l) ++ [(l, t, [(t, x)])] ++ (ns.map absN).drop (place ns l)
  else ns.map absN

theorem map_ptr_one (ns : List Node) : ∀ u ∈ ns.map ptr, u.oneCell' = true := by
  intro u hu
  obtain ⟨n, -, rfl⟩ := List.mem_map.1 hu
  rfl

/-- what New and the variadic list lay -/
theorem StoreAt.afterNew {w w1 : World} {F : Nat → Prop} {p : Nat} {ns : List Node} {va : Value} (h : StoreAt w F p ns va) (hb : Below w.heap.size w w1) (o o2 : Obj) :
    StoreAt (w1.alloc o) F p ns va ∧ StoreAt ((w1.alloc o).alloc o2) F p ns va := by
  have hs := hb.size
  have h1 : StoreAt (w1.alloc o) F p ns va := h.keep fun b hlt _ => by
    rw [Go.RowKit.Below.heap_alloc w1 o b (by omega), hb.block b hlt]
  refine ⟨h1, h1.keep fun b hlt _ => ?_⟩
  exact Go.RowKit.Below.heap_alloc _ _ _ hlt

theorem two_new (w : World) (o o2 : Obj) : ((w.alloc o).alloc o2).heap[w.heap.size + 1]? = some o2 := by
  have h := heap_alloc_new (w.alloc o) o2
  simpa using h

theorem own_ne {w w4 : World} {F : Nat → Prop} {p : Nat} {ns : List Node} {va : Value} (h : StoreAt w F p ns va) (hs : w.heap.size ≤ w4.heap.size) : ∀ g, va.ownBlock = some g → w4.heap.size + 1 ≠ g := by
  intro g hg
  have := (ownsRow_type h.row hg).1
  omega

theorem ins_at (ns : List Node) (k : Nat) (hk : k ≤ ns.length) (m : Node) (h : k < (ns.take k ++ [m] ++ ns.drop k).length) : (ns.take k ++ [m] ++ ns.drop k)[k] = m := by
  have hl : (ns.take k).length = k := by simp; omega
  rw [List.getElem_append_left (by simp; omega), List.getElem_append_right (by omega)]
  simp

theorem ins_set (ns : List Node) (k : Nat) (hk : k ≤ ns.length) (m m' : Node) : (ns.take k ++ [m] ++ ns.drop k).set k m' = ns.take k ++ [m'] ++ ns.drop k := by
  have hl : (ns.take k).length = k := by simp; omega
  rw [List.append_assoc, List.set_append_right _ _ (by omega), hl, Nat.sub_self]
  simp

theorem StoreAt.inserted {w w4 w5 : World} {F : Nat → Prop} {p k : Nat} {ns : List Node} {va v5 : Value} {l : List UInt8} (h : StoreAt w F p ns va) (hb : Below w.heap.size w w4)
    (hrow : w5.ownsRow 0 79 1 v5 (ns.length + 1) ((ns.map ptr).take k ++ [.pointer (some ⟨w4.heap.size, 0, none⟩)] ++ (ns.map ptr).drop k))
    (hgr : ((w4.alloc (.cells #[SV l, .int .i64 0, .slice none 0 0] 118)).alloc (.cells #[.pointer (some ⟨w4.heap.size, 0, none⟩)] 79)).grownBy w5 va.ownBlock)
    (hv : ∀ g, v5.ownBlock = some g → va.ownBlock = some g ∨ ((w4.alloc (.cells #[SV l, .int .i64 0, .slice none 0 0] 118)).alloc (.cells #[.pointer (some ⟨w4.heap.size, 0, none⟩)] 79)).heap.size ≤ g) :
    StoreAt (w5.setCell ⟨p, 0, none⟩ v5) (Plus F w) p (ns.take k ++ [(⟨w4.heap.size, l, 0, [], .slice none 0 0⟩ : Node)] ++ ns.drop k) v5 ∧ w5.cell? ⟨p, 0, none⟩ = some va ∧ w5.frozen? ⟨p, 0, none⟩ = false ∧ Moved F w (w5.setCell ⟨p, 0, none⟩ v5) := by
  have hs := hb.size
  refine h.ins (m := (⟨w4.heap.size, l, 0, [], .slice none 0 0⟩ : Node)) ⟨?_, World.ownsRow_nil _ _ _ _⟩ hs rfl hrow ?_ ?_
  · show w5.heap[w4.heap.size]? = _
    rw [hgr.block w4.heap.size (by simp; omega) (fun e => ?_), Go.RowKit.Below.heap_alloc _ _ _ (by simp)]
    · exact heap_alloc_new w4 _
    · have := (ownsRow_type h.row e.symm).1
      omega
  · intro g hg
    rcases hv g hg with h1 | h1
    · exact .inl h1
    · right
      simp at h1
      omega
  · exact (((Moved.of_below hb).alloc _).alloc _).grown hgr (fun b hbk => .inl hbk)

set_option maxRecDepth 10000 in
set_option maxHeartbeats 4000000 in
theorem push_any {w : World} {F : Nat → Prop} {p : Nat} {ns : List Node} {va : Value} (l x : List UInt8) (t : Int) (h : StoreAt w F p ns va) (hn : ns.length ≤ 6) (hs : Rising ns) (ht : total ns ≤ 300) (hl : l.length ≤ 1048576) (hx : x.length ≤ 1048576) :
    Calls Tryz.prog 23 #[.pointer (some ⟨p, 0, none⟩), .string ⟨l.toArray⟩, .int .i64 t, .string ⟨x.toArray⟩] w fun e w' =>
      e = .returned (.int .i64 (codeP ns l t x)) ∧ (∃ ns' va', StoreAt w' (Plus F w) p ns' va' ∧ ns'.map absN = pushedA ns l t x) ∧ Moved F w w' := by
  have HCP := hide (show codeP ns l t x = if checkL l t x = 0 then roomC ns l t else checkL l t x from rfl)
  have HPA := hide (show pushedA ns l t x = if codeP ns l t x = 0 then
    if ∃ n ∈ ns, n.lab = l then (ns.map absN).set (place ns l) (l, t, ((ns.map absN).getD (place ns l) ([], 0, [])).2.2 ++ [(t, x)])
    else (ns.map absN).take (place ns l) ++ [(l, t, [(t, x)])] ++ (ns.map absN).drop (place ns l)
    else ns.map absN from rfl)
  generalize codeP ns l t x = code at *
  generalize pushedA ns l t x = pa at *
  go_enter Tryz.func23, Tryz.ntmps23
  go_wp2_with fail
  refine (checkLine_any l x t _ hl hx).mono ?_
  rintro e w1 ⟨rfl, n1, rfl⟩
  have h1 : StoreAt (w.drewN n1) F p ns va := h.keep fun b _ _ => rfl
  have hm1 : Moved F w (w.drewN n1) := (Moved.refl F w).drawn n1
  have hsz1 : (w.drewN n1).heap.size = w.heap.size := rfl
  generalize w.drewN n1 = W at *
  generalize checkL l t x = c at *
  by_cases hc : c = 0
  · subst hc
    rw [show (if (0 : Int) = 0 then roomC ns l t else 0) = roomC ns l t from if_pos rfl] at HCP
    go_wp2_with fail
    refine (find_any l h1 hn hs).mono ?_
    rintro e w2 ⟨rfl, rfl⟩
    go_wp2_with fail
    refine (checkRoom_any l t h1 hn hs ht).mono ?_
    rintro e w3 ⟨rfl, rfl⟩
    generalize roomC ns l t = r at *
    by_cases hr : r = 0
    · subst hr
      rw [unhide HCP] at HPA
      rw [if_pos rfl] at HPA
      have htk := fun (n : Node) (hm : n ∈ ns) => Nat.le_trans (total_le ns n hm) ht
      obtain ⟨c0, fz⟩ := cell_of_block1 h1.block
      by_cases hex : ∃ n ∈ ns, n.lab = l
      · obtain ⟨hp, hlab⟩ := at_place hs hex
        rw [decide_eq_true hex]
        rw [if_pos hex] at HPA
        obtain ⟨g, cap, rfl, -, hgw, hnc, hcm, hcell, hfz⟩ := owns_open h1.row (by omega)
        have hc := hcell (place ns l) (by omega)
        rw [ptr_at hp] at hc
        have HND := hide (h1.nodes _ (List.getElem_mem hp))
        have hlen := htk _ (List.getElem_mem hp)
        clear hex hcell hfz hs htk fz
        generalize place ns l = k at *
        have HH := hide h1
        clear h1
        go_wp2_with (go_at_call 50; refine (sAdd_any t x (unhide HND) hx hlen).mono ?_; rintro e w4 ⟨rfl, v4, hN4, hv4, hm4⟩)
        go_ret
        have hst := (unhide HH).set hp hN4 rfl hv4 hm4
        refine ⟨ret_int (unhide HCP).symm, ⟨_, _, hst.weaken (fun b hb => by rcases hb with hb | hb; exact .inl hb; exact .inr (by omega)), ?_⟩, hm1.trans (hm4.mono (F1 := F) ?_) (fun _ hf => .inl hf)⟩
        · rw [unhide HPA, List.map_set]
          simp [absN, hlab, hp]
        · intro b _ hb
          have hin := (unhide HH).inN _ (List.getElem_mem hp)
          rcases hb with rfl | hb
          · exact hin.1
          · exact hin.2 b hb
      · rw [decide_eq_false hex]
        rw [if_neg hex] at HPA
        have hple := place_le ns l
        clear hex hs
        generalize place ns l = k at *
        obtain ⟨ao, cap, rfl, -, -, -, -, -, -⟩ := owns_form h1.row
        have HH := hide h1
        have hplt := h1.lt
        clear h1 fz htk
        go_upto_region 9 with fail
        go_region_law (first
          | (go_simp; go_at_call 49; refine (sNew_any l _ hl).mono ?_; rintro e w5 ⟨w4, hb4, rfl, rfl⟩; have hb : Below w3.heap.size w3 w4 := ⟨hb4.os, hb4.tape, hb4.output, hb4.size, hb4.block⟩; have HST := hide (fun o o2 => (unhide HH).afterNew hb o o2); have g1 : ∀ o, (w4.alloc o).cell? ⟨p, 0, none⟩ = some (.slice ao ns.length cap) := fun o => (cell_of_block1 (unhide HST o o).1.block).1; have g2 : ∀ o o2, ((w4.alloc o).alloc o2).cell? ⟨p, 0, none⟩ = some (.slice ao ns.length cap) := fun o o2 => (cell_of_block1 (unhide HST o o2).2.block).1; have hsz4 := hb.size; clear hb4; dsimp only)
          | (go_simp; go_at_call 48; refine (insert_any (y := .pointer (some ⟨w4.heap.size, 0, none⟩)) (gv := w4.heap.size + 1) (unhide HST _ _).2.row (two_new w4 _ _) (own_ne (unhide HH) hsz4) rfl (map_ptr_one ns) hn hple).mono ?_; rintro e w5 ⟨v5, rfl, hrow5, hgr5, hv5⟩; obtain ⟨g5, cap5, rfl, -, -, -, -, -, -⟩ := owns_open hrow5 (by omega); obtain ⟨hU, hu1, hu2, hu3⟩ := (unhide HH).inserted hb hrow5 hgr5 hv5; clear hgr5 hv5 hrow5; dsimp only))
        all_goals
          generalize w5.setCell ⟨p, 0, none⟩ (.slice (some ⟨g5, 0, none⟩) (ns.length + 1) cap5) = U at *
          obtain ⟨cU, fU⟩ := cell_of_block1 hU.block
          have hkl : k < (ns.take k ++ [(⟨w4.heap.size, l, 0, [], .slice none 0 0⟩ : Node)] ++ ns.drop k).length := by simp; omega
          have hke := ins_at ns k hple (⟨w4.heap.size, l, 0, [], .slice none 0 0⟩ : Node) hkl
          have hNU := hU.nodes _ (List.getElem_mem hkl)
          rw [hke] at hNU
          have hcU : U.cell? ⟨g5, k, none⟩ = some (.pointer (some ⟨w4.heap.size, 0, none⟩)) := by
            have hll : (ns.take k ++ [(⟨w4.heap.size, l, 0, [], .slice none 0 0⟩ : Node)] ++ ns.drop k).length = ns.length + 1 := by simp; omega
            have hrw := hU.row
            rw [hll] at hrw
            rw [hrw.cellAt k (by omega), ptr_at hkl, hke]
          have HNU := hide hNU
          have HUU := hide hU
          have HKE := hide hke
          clear hNU hU hke g1 g2 HST
          go_wp2_with (go_at_call 50; refine (sAdd_any t x (unhide HNU) hx (by simp)).mono ?_; rintro e w6 ⟨rfl, v6, hN6, hv6, hm6⟩)
          go_ret
          have hst := (unhide HUU).set hkl hN6 (by rw [unhide HKE]) (by rw [unhide HKE]; exact hv6) (by rw [unhide HKE]; exact hm6)
          refine ⟨ret_int (unhide HCP).symm, ⟨_, _, hst.weaken ?_, ?_⟩, (hm1.trans hu3 (fun _ hf => .inl hf)).trans hm6 ?_⟩
          · have := hu3.size
            rintro b ((hb | hb) | hb)
            · exact .inl hb
            · exact .inr (by omega)
            · exact .inr (by omega)
          · rw [unhide HPA, ins_set ns k hple]
            simp [absN]
          · intro b hb
            right
            rcases hb with rfl | hb
            · show w.heap.size ≤ w4.heap.size
              omega
            · cases hb
    · have hrb : (r == 0) = false := by simpa using hr
      have HR0 := hide hr
      clear hr
      go_wp2
      go_ret
      refine ⟨ret_int (unhide HCP).symm, ⟨ns, va, h1.weaken (fun b hb => .inl hb), ?_⟩, hm1⟩
      rw [unhide HPA, unhide HCP, if_neg (unhide HR0)]
  · have hcb : (c == 0) = false := by simpa using hc
    have HC0 := hide hc
    clear hc
    go_wp2
    go_ret
    have hcode : code = c := by rw [unhide HCP, if_neg (unhide HC0)]
    refine ⟨ret_int hcode.symm, ⟨ns, va, h1.weaken (fun b hb => .inl hb), ?_⟩, hm1⟩
    rw [unhide HPA, hcode, if_neg (unhide HC0)]

end Go.Proofs.YtbljamcdaoofbaaGreatDoor
