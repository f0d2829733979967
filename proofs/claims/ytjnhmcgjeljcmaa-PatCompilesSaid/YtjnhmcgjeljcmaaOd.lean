/- nfa.Prog.join: a fork goes on to more. -/
import Derived.Test.YtjnhmcgjeljcmaaOc
namespace Go.Proofs.Ytjnhmcgjeljcmaa
open Go.RowKit Go.Maps

theorem own_set {w : World} {B : Nat} {e : TypeId} {sz g n c j : Nat} {xs : List Value} {u : Value} (h : w.ownsRow B e sz (.slice (some ⟨g, 0, none⟩) n c) n xs) (_ : j < n * sz) : (w.setCell ⟨g, j, none⟩ u).ownsRow B e sz (.slice (some ⟨g, 0, none⟩) n c) n (xs.set j u) := by
  refine ⟨by rw [List.length_set]; exact h.1, ?_⟩
  rcases h.2 with ⟨e1, _⟩ | ⟨g', cap, cur, e1, h1, h2, h3, h4, h5, h6⟩
  · cases e1
  · injection e1 with e1 _ e3
    injection e1 with e1
    injection e1 with e1 _ _
    subst e1 e3
    refine .inr ⟨g, c, cur.setIfInBounds j u, rfl, h1, ?_, h3, h4, by rw [Array.size_setIfInBounds]; exact h5, ?_⟩
    · simp [World.setCell, Array.getElem?_modify, h2]
    · rw [Array.toList_setIfInBounds, List.take_set, h6]
theorem stC_set (x : St) (nv nv' : Value) (ns : List Nat) : (stC x nv).toList.set 257 nv' = (stC ⟨x.bytes, x.fork, ns⟩ nv').toList := by
  have e : (stC x nv).setIfInBounds 257 nv' = stC ⟨x.bytes, x.fork, ns⟩ nv' := by
    apply Array.ext_getElem?
    intro j
    rw [Array.getElem?_setIfInBounds, stC_size]
    by_cases h : j = 257
    · subst h; rw [if_pos rfl, if_pos (by decide), stC_next]
    · rw [if_neg (fun e => h e.symm)]
      by_cases h1 : j < 256
      · rw [stC_byte _ _ h1, stC_byte _ _ h1]
      · by_cases h2 : j = 256
        · subst h2; rw [stC_fork, stC_fork]
        · rw [Array.getElem?_eq_none (by rw [stC_size]; omega), Array.getElem?_eq_none (by rw [stC_size]; omega)]
  rw [← Array.toList_setIfInBounds, e]
theorem flat_set : ∀ {rs : List SR} {f : Nat} {r : SR} (nv' : Value) (ns : List Nat), rs[f]? = some r → (rs.flatMap SR.cells).set (f * 258 + 257) nv' = (rs.set f ⟨⟨r.x.bytes, r.x.fork, ns⟩, nv'⟩).flatMap SR.cells
  | [], f, r, _, _, h => by simp at h
  | a :: rs, 0, r, nv', ns, h => by
    obtain rfl := Option.some.inj h
    rw [List.flatMap_cons, List.set_append_left _ _ (by rw [SR.len]; omega), List.set_cons_zero, List.flatMap_cons]
    have e : (SR.cells a).set (0 * 258 + 257) nv' = SR.cells ⟨⟨a.x.bytes, a.x.fork, ns⟩, nv'⟩ := by
      unfold SR.cells
      rw [Nat.zero_mul, Nat.zero_add]; exact stC_set a.x a.nv nv' ns
    rw [e]
  | a :: rs, f + 1, r, nv', ns, h => by
    rw [List.flatMap_cons, List.set_append_right _ _ (by rw [SR.len]; omega), SR.len, show (f + 1) * 258 + 257 - 258 = f * 258 + 257 by omega, List.set_cons_succ, List.flatMap_cons, flat_set nv' ns (show rs[f]? = some r from h)]
theorem joinM_eq {rs : List SR} {f : Nat} {r : SR} (nv' : Value) (ns : List Nat) (h : rs[f]? = some r) : (rs.set f ⟨⟨r.x.bytes, r.x.fork, r.x.next ++ ns⟩, nv'⟩).map SR.x = joinM (rs.map SR.x) f ns := by
  apply List.ext_getElem?
  intro q
  obtain ⟨hlt, he⟩ := List.getElem?_eq_some_iff.1 h
  unfold joinM
  rw [List.getElem?_map, List.getElem?_modify, List.getElem?_map, List.getElem?_set]
  by_cases e : f = q
  · subst e; simp [hlt, he]
  · simp [e]
section
variable {w w' : World} {X Y : Nat → Prop} {pp : Nat} {v : Value} {start steps : Int} {rs : List SR} {S : List St}
theorem MAt.grow (ty : TypeId) (h : MAt w pp v start steps rs) {f : Nat} {r : SR} (hf : rs[f]? = some r) {tb : Nat} {ns : List Nat} (ht : Blk w tb 3 (ns.map intV).toArray) (_ : 0 < ns.length) (hl : r.x.next.length + ns.length ≤ 100000) (c0 : Nat) :
    ∃ sb c nv' w', v = .slice (some ⟨sb, 0, none⟩) rs.length c ∧ sb ≠ pp ∧ rs.length ≤ c ∧ (Builtin.append_ #[39, 39] ty #[r.nv, .slice (some ⟨tb, 0, none⟩) ns.length c0]).run Try.prog w = .ok nv' w' ∧ w.grownBy w' r.nv.ownBlock ∧ (nv'.ownBlock = r.nv.ownBlock ∨ nv'.ownBlock = some w.heap.size) ∧ (∃ A' k c', nv' = .slice A' k c') ∧
      w'.cell? ⟨pp, 0, none⟩ = some v ∧ (w'.cell? ⟨sb, f * 258 + 257, none⟩).isSome = true ∧ w'.frozen? ⟨sb, f * 258 + 257, none⟩ = false ∧
      MAt (w'.setCell ⟨sb, f * 258 + 257, none⟩ nv') pp v start steps (rs.set f ⟨⟨r.x.bytes, r.x.fork, r.x.next ++ ns⟩, nv'⟩) := by
  obtain ⟨i0, hi0, hz0, hz1, hz2⟩ := info_parts int_info
  have hfl := (List.getElem?_eq_some_iff.1 hf).1
  obtain ⟨sb, c, rfl, hc1, hc2, hsb, hsp, hnb, hcell⟩ := h.cells (fun e => by rw [e] at hfl; exact Nat.not_lt_zero _ hfl)
  have hrn := h.next f r hf
  obtain ⟨nv', w', h1, h2, h3, _, h5⟩ := run_append_own_at (P := Try.prog) w 0 39 ty 3 i0 _ 1 8 Try.underlying39 hi0 hz0 hz1 hz2 rfl (by decide) r.nv r.x.next.length (r.x.next.map intV) hrn ⟨tb, 0, none⟩ ns.length c0 (ns.map intV) (by rw [List.length_map, Nat.mul_one])
    (fun j u hu => by
      have e : (⟨tb, 0, none⟩ : Addr).add j = ⟨tb, j, none⟩ := by unfold Addr.add; split <;> simp_all
      rw [e, ht.cell, List.getElem?_toArray]; exact hu)
    (fun u hu => by obtain ⟨z, _, rfl⟩ := List.mem_map.1 hu; rfl) (by unfold maxLen; omega) (by omega) (Nat.zero_le _)
  have hnew : ∀ b, nv'.ownBlock = some b → r.nv.ownBlock = some b ∨ b = w.heap.size := fun b hb => by
    rcases h5 with h5 | h5
    · left; rw [← h5]; exact hb
    · right; rw [h5] at hb; exact (Option.some.inj hb).symm
  have hpl := h.top.lt
  have htop : Blk w' pp 151 #[.slice (some ⟨sb, 0, none⟩) rs.length c, .int .i64 start, .int .i64 steps] := (h3.block pp hpl (fun e => (h.apart f r pp hf e.symm).1 rfl)).trans h.top
  have hsbw : w'.heap[sb]? = w.heap[sb]? := h3.block sb hsb (fun e => hnb f r hf e.symm)
  obtain ⟨hc257, hf257⟩ := hcell f r 257 hf (by decide)
  rw [stC_next] at hc257
  refine ⟨sb, c, nv', w', rfl, hsp, hc1, h1, h3, h5, (by rcases h2.2 with ⟨e, _⟩ | ⟨_, _, _, e, _⟩ <;> exact ⟨_, _, _, e⟩), htop.cell 0, ?_, ?_, ?_⟩
  · rw [World.cell?_of_block (a := ⟨sb, f * 258 + 257, none⟩) hsbw, hc257]; rfl
  · rw [World.frozen?_of_block (a := ⟨sb, f * 258 + 257, none⟩) hsbw]; exact hf257
  have hown : w'.ownsRow 0 175 258 (.slice (some ⟨sb, 0, none⟩) rs.length c) rs.length (rs.flatMap SR.cells) := row_keep h.own fun b hb => by
    obtain rfl : sb = b := Option.some.inj hb
    exact hsbw
  have hget : ∀ (q : Nat) (r' : SR), (rs.set f ⟨⟨r.x.bytes, r.x.fork, r.x.next ++ ns⟩, nv'⟩)[q]? = some r' → (q ≠ f ∧ rs[q]? = some r') ∨ (q = f ∧ r' = ⟨⟨r.x.bytes, r.x.fork, r.x.next ++ ns⟩, nv'⟩) := fun q r' hq => by
    rw [List.getElem?_set] at hq
    by_cases e : f = q
    · subst e; rw [if_pos rfl, if_pos hfl] at hq; exact .inr ⟨rfl, (Option.some.inj hq).symm⟩
    · rw [if_neg e] at hq; exact .inl ⟨fun x => e x.symm, hq⟩
  have hne : ∀ b, b < w.heap.size → b ≠ sb → r.nv.ownBlock ≠ some b → (w'.setCell ⟨sb, f * 258 + 257, none⟩ nv').heap[b]? = w.heap[b]? := fun b hb h6 h7 => (Below.heap_setCell w' _ _ b h6).trans (h3.block b hb (fun e => h7 e.symm))
  have hvsb : ∀ b, nv'.ownBlock = some b → b ≠ sb := fun b hb e => by
    rcases hnew b hb with h6 | h6
    · exact hnb f r hf (e ▸ h6)
    · omega
  refine ⟨htop.far (Ne.symm hsp) _, ?_, fun q r' hq => ?_, fun q r' b hq hb => ?_, fun q r1 q' r2 b hq hq' hb hb' => ?_, h.vpp⟩
  · rw [List.length_set, ← flat_set nv' _ hf]
    refine own_set hown ?_
    have : f * 258 + 258 ≤ rs.length * 258 := by rw [← Nat.succ_mul]; exact Nat.mul_le_mul_right _ hfl
    omega
  · rcases hget q r' hq with ⟨hqf, hq⟩ | ⟨rfl, rfl⟩
    · exact row_keep (h.next q r' hq) fun b hb => hne b ((h.next q r' hq).lt b hb).2 (fun e => hnb q r' hq (e ▸ hb)) (fun e => hqf (h.inj q r' f r b hq hf hb e))
    · have h8 : (w'.setCell ⟨sb, q * 258 + 257, none⟩ nv').ownsRow 0 3 1 nv' (r.x.next.length + ns.length) (r.x.next.map intV ++ ns.map intV) := row_keep h2 fun b hb => Below.heap_setCell w' _ _ b (hvsb b hb)
      rw [List.length_append, List.map_append]
      exact h8
  · rcases hget q r' hq with ⟨hqf, hq⟩ | ⟨rfl, rfl⟩
    · exact h.apart q r' b hq hb
    · refine ⟨fun e => ?_, fun e => hvsb b hb (Option.some.inj e).symm⟩
      rcases hnew b hb with h6 | h6
      · exact (h.apart q r b hf h6).1 e
      · omega
  · rcases hget q r1 hq with ⟨h6, hq⟩ | ⟨e1, rfl⟩ <;> rcases hget q' r2 hq' with ⟨h7, hq'⟩ | ⟨e2, rfl⟩
    · exact h.inj q r1 q' r2 b hq hq' hb hb'
    · exfalso
      rcases hnew b hb' with h8 | h8
      · exact h6 (h.inj q r1 f r b hq hf hb h8)
      · have := ((h.next q r1 hq).lt b hb).2; omega
    · exfalso
      rcases hnew b hb with h8 | h8
      · exact h7 (h.inj q' r2 f r b hq' hf hb' h8)
      · have := ((h.next q' r2 hq').lt b hb').2; omega
    · omega
end
set_option maxHeartbeats 400000 in
set_option maxRecDepth 100000 in
theorem join_any {w : World} {X : Nat → Prop} {pp : Nat} {start steps : Int} {S : List St} (h : Mach w X pp start steps S) {f : Nat} {x : St} (hf : S[f]? = some x) {tb : Nat} {ns : List Nat} (ht : Blk w tb 3 (ns.map intV).toArray) (h0 : 0 < ns.length) (hl : x.next.length + ns.length ≤ 100000) (c0 : Nat) :
    Calls Try.prog 123 #[.pointer (some ⟨pp, 0, none⟩), .int .i64 (f : Nat), .slice (some ⟨tb, 0, none⟩) ns.length c0] w fun e w' => e = .returned (.tuple #[]) ∧ ∃ X', Mach w' X' pp start steps (joinM S f ns) ∧ (∀ j, X' j → X j ∨ w.heap.size ≤ j) ∧ Kept X w w' := by
  obtain ⟨v, rs, rfl, hm, hXX⟩ := h
  have hX := fun j hj => (hXX j).1 hj
  clear hXX
  have hfl : f < rs.length := by have := (List.getElem?_eq_some_iff.1 hf).1; rwa [List.length_map] at this
  obtain ⟨r, hr⟩ : ∃ r, rs[f]? = some r := ⟨rs[f], List.getElem?_eq_getElem hfl⟩
  obtain rfl : x = r.x := by rw [List.getElem?_map, hr] at hf; exact (Option.some.inj hf).symm
  have hmd : MAt w.drew pp v start steps rs := hm.keep fun _ _ => rfl
  obtain ⟨sb, c, nv', w3, rfl, hsp, hcc, hrun, hg, hb5, ⟨A', k', c', rfl⟩, p3, c3, f3, hm3⟩ := hmd.grow 39 hr (show Blk w.drew tb 3 (ns.map intV).toArray from ht) h0 hl c0
  obtain ⟨sb2, c2, e2, _, _, hsbl, _, hnb, hcell⟩ := hm.cells (fun e => by rw [e] at hfl; exact Nat.not_lt_zero _ hfl)
  injection e2 with e2 _ e3
  injection e2 with e2
  injection e2 with e2 _ _
  subst e2 e3
  have mixed : Try.prog.follows .mixedOrders = true := by kernel_rfl
  have p0 : w.cell? ⟨pp, 0, none⟩ = some (.slice (some ⟨sb, 0, none⟩) rs.length c) := hm.top.cell 0
  have q0 : w.cell? ⟨sb, f * 258 + 257, none⟩ = some r.nv := by rw [(hcell f r 257 hr (by decide)).1, stC_next]
  have hf0 : (0 : Int) ≤ (f : Int) := by omega
  have hf1 : (f : Int) < (rs.length : Int) := by omega
  have p4 : (w3.setCell ⟨sb, f * 258 + 257, none⟩ (.slice A' k' c')).cell? ⟨pp, 0, none⟩ = some (.slice (some ⟨sb, 0, none⟩) rs.length c) := by rw [World.cell?_of_block (a := ⟨pp, 0, none⟩) (Below.heap_setCell w3 _ _ pp (Ne.symm hsp))]; exact p3
  obtain ⟨cv, hcv⟩ := Option.isSome_iff_exists.1 c3
  have HFIN := Lib.hid (show ∃ X', Mach (w3.setCell ⟨sb, f * 258 + 257, none⟩ (.slice A' k' c')) X' pp start steps (joinM (rs.map SR.x) f ns) ∧ (∀ j, X' j → X j ∨ w.heap.size ≤ j) ∧ Kept X w (w3.setCell ⟨sb, f * 258 + 257, none⟩ (.slice A' k' c')) from by
    refine ⟨MX pp (.slice (some ⟨sb, 0, none⟩) rs.length c) (rs.set f ⟨⟨r.x.bytes, r.x.fork, r.x.next ++ ns⟩, (.slice A' k' c')⟩), ⟨_, _, joinM_eq (.slice A' k' c') ns hr, hm3, fun _ => Iff.rfl⟩, fun j hj => ?_, ?_⟩
    · rcases hj with rfl | hj | ⟨q, r', hq, hj⟩
      · exact .inl (hX _ (.inl rfl))
      · exact .inl (hX _ (.inr (.inl hj)))
      · rw [List.getElem?_set] at hq
        by_cases e : f = q
        · subst e
          rw [if_pos rfl, if_pos hfl] at hq
          obtain rfl := Option.some.inj hq
          rcases hb5 with h5 | h5
          · exact .inl (hX _ (.inr (.inr ⟨f, r, hr, by rw [← h5]; exact hj⟩)))
          · right
            have h6 : some w.drew.heap.size = some j := h5.symm.trans hj
            have h7 : w.heap.size = j := Option.some.inj h6
            omega
        · rw [if_neg e] at hq
          exact .inl (hX _ (.inr (.inr ⟨q, r', hq, hj⟩)))
    · have k1 : Kept X w w3 := (Kept.drew (Kept.refl X w)).grown hg (fun j hj => .inl (hX j (.inr (.inr ⟨f, r, hr, hj⟩))))
      exact k1.set_ (.inl (hX sb (.inr (.inl rfl)))) _)
  have HRUN := Lib.hid hrun
  clear hrun hg hb5 hm3 hm hmd hX hnb hcell c3 ht hr hf
  go_enter Try.func123, Try.ntmps123
  go_wp2_with fail
  refine wp_region_held_drew (S := fun V => V.cell? ⟨pp, 0, none⟩ = some (.slice (some ⟨sb, 0, none⟩) rs.length c)) mixed p0 (fun hS => ?_)
  refine wpAnyH_take (i := 0) (v := .pointer (some ⟨pp, 0, none⟩)) rfl (by kernel_rfl) (by kernel_rfl) (by kernel_rfl) (fun _ _ _ h => h) (Or.inl ⟨by rfl, fun W hW => by have h0 := hW; go_simp⟩) hS ?_
  refine wpAnyH_take (i := 1) (v := .pointer (some ⟨pp, 0, none⟩)) rfl (by kernel_rfl) (by kernel_rfl) (by kernel_rfl) (fun _ _ _ h => h) (Or.inl ⟨by rfl, fun W hW => by have h0 := hW; go_simp⟩) hS ?_
  refine wpAnyH_take (i := 2) (v := .pointer (some ⟨pp, 0, none⟩)) rfl (by kernel_rfl) (by kernel_rfl) (by kernel_rfl) (fun _ _ _ h => h) (Or.inl ⟨by rfl, fun W hW => by have h0 := hW; go_simp⟩) hS ?_
  refine wpAnyH_take (i := 3) (v := .slice (some ⟨sb, 0, none⟩) rs.length c) rfl (by kernel_rfl) (by kernel_rfl) (by kernel_rfl) (fun _ _ _ h => h) (Or.inl ⟨by rfl, fun W hW => by have h0 := hW; go_simp⟩) hS ?_
  refine wpAnyH_take (i := 4) (v := .int .i64 (f : Nat)) rfl (by kernel_rfl) (by kernel_rfl) (by kernel_rfl) (fun _ _ _ h => h) (Or.inl ⟨by rfl, fun W hW => by have h0 := hW; go_simp⟩) hS ?_
  refine wpAnyH_take (i := 5) (v := .pointer (some ⟨pp, 0, none⟩)) rfl (by kernel_rfl) (by kernel_rfl) (by kernel_rfl) (fun _ _ _ h => h) (Or.inl ⟨by rfl, fun W hW => by have h0 := hW; go_simp⟩) hS ?_
  refine wpAnyH_take (i := 6) (v := .pointer (some ⟨pp, 0, none⟩)) rfl (by kernel_rfl) (by kernel_rfl) (by kernel_rfl) (fun _ _ _ h => h) (Or.inl ⟨by rfl, fun W hW => by have h0 := hW; go_simp⟩) hS ?_
  refine wpAnyH_take (i := 7) (v := .pointer (some ⟨pp, 0, none⟩)) rfl (by kernel_rfl) (by kernel_rfl) (by kernel_rfl) (fun _ _ _ h => h) (Or.inl ⟨by rfl, fun W hW => by have h0 := hW; go_simp⟩) hS ?_
  refine wpAnyH_take (i := 8) (v := .slice (some ⟨sb, 0, none⟩) rs.length c) rfl (by kernel_rfl) (by kernel_rfl) (by kernel_rfl) (fun _ _ _ h => h) (Or.inl ⟨by rfl, fun W hW => by have h0 := hW; go_simp⟩) hS ?_
  refine wpAnyH_take (i := 9) (v := .int .i64 (f : Nat)) rfl (by kernel_rfl) (by kernel_rfl) (by kernel_rfl) (fun _ _ _ h => h) (Or.inl ⟨by rfl, fun W hW => by have h0 := hW; go_simp⟩) hS ?_
  refine wpAnyH_take (i := 10) (v := .pointer (some ⟨sb, f * 258, none⟩)) rfl (by kernel_rfl) (by kernel_rfl) (by kernel_rfl) (fun _ _ _ h => h) (Or.inl ⟨by rfl, fun W hW => by have h0 := hW; go_simp⟩) hS ?_
  refine wpAnyH_take (i := 11) (v := .pointer (some ⟨sb, f * 258 + 257, none⟩)) rfl (by kernel_rfl) (by kernel_rfl) (by kernel_rfl) (fun _ _ _ h => h) (Or.inl ⟨by rfl, fun W hW => by have h0 := hW; go_simp⟩) hS ?_
  refine wpAnyH_take (i := 13) (v := .slice (some ⟨tb, 0, none⟩) ns.length c0) rfl (by kernel_rfl) (by kernel_rfl) (by kernel_rfl) (fun _ _ _ h => h) (Or.inl ⟨by rfl, fun W hW => by have h0 := hW; go_simp⟩) hS ?_
  refine wpAnyH_ready (rs := [12]) (by kernel_rfl) (by simp) ?_
  refine AllReadyH.cons rfl (fun K hK => ?_) AllReadyH.nil
  go_simp
  refine hK.out _ _ hS (fun hS => ?_)
  clear hK K
  try simp only [Act.put, List.getElem_toArray, List.getElem_cons_zero, List.getElem_cons_succ, List.setIfInBounds_toArray, List.set_cons_zero, List.set_cons_succ]
  refine wpAnyH_ready (rs := [14]) (by kernel_rfl) (by simp) ?_
  refine AllReadyH.cons rfl (fun K hK => ?_) AllReadyH.nil
  refine step_append_run rfl (.tmp 18) (.tmp 19) 39 rfl _ _ _ rfl rfl HRUN.out ?_
  refine hK.out _ _ p3 (fun hS => ?_)
  clear hK K
  try simp only [Act.put, List.getElem_toArray, List.getElem_cons_zero, List.getElem_cons_succ, List.setIfInBounds_toArray, List.set_cons_zero, List.set_cons_succ]
  refine wpAnyH_take (i := 15) (v := .pointer (some ⟨sb, f * 258, none⟩)) rfl (by kernel_rfl) (by kernel_rfl) (by kernel_rfl) (fun _ _ _ h => h) (Or.inl ⟨by rfl, fun W hW => by have h0 := hW; go_simp⟩) hS ?_
  refine wpAnyH_take (i := 16) (v := .pointer (some ⟨sb, f * 258 + 257, none⟩)) rfl (by kernel_rfl) (by kernel_rfl) (by kernel_rfl) (fun _ _ _ h => h) (Or.inl ⟨by rfl, fun W hW => by have h0 := hW; go_simp⟩) hS ?_
  refine wpAnyH_ready (rs := [17]) (by kernel_rfl) (by simp) ?_
  refine AllReadyH.cons rfl (fun K hK => ?_) AllReadyH.nil
  go_simp
  refine hK.out _ _ p4 (fun hS => ?_)
  clear hK K
  refine wpAnyH_done (by kernel_rfl) ?_ _
  go_wp2
  go_end0
  exact ⟨rfl, HFIN.out⟩
end Go.Proofs.Ytjnhmcgjeljcmaa
