/- PackBack answers true. -/
import Derived.Test.YtldngpgkoohbmaaQd
namespace Go.Proofs.Ytldngpgkoohbmaa
open Go.RowKit

/-- What PackBack has made: the boxes of its arguments, of ok; nothing older has turned. -/
structure PB (w V : World) (A B : Option Addr) (n c m d : Nat) : Prop where
  nb : Blk V w.heap.size 64 #[.slice A n c]
  tb : Blk V (w.heap.size + 1) 55 #[.slice B m d]
  old : Below w.heap.size w V
section
variable {w V V' : World} {A B : Option Addr} {n c m d : Nat} {ns : List Int} {ss : List ByteArray}
theorem PB.turn (h : PB w V A B n c m d) (hk : ∀ j, j < w.heap.size + 2 → V'.heap[j]? = V.heap[j]?) (hs : V.heap.size ≤ V'.heap.size) (h1 : V'.os = V.os) (h2 : V'.tape = V.tape) (h3 : V'.output = V.output) : PB w V' A B n c m d :=
  ⟨(hk _ (by omega)).trans h.nb, (hk _ (by omega)).trans h.tb, ⟨h1.trans h.old.os, h2.trans h.old.tape, h3.trans h.old.output, Nat.le_trans h.old.size hs, fun j hj => (hk j (by omega)).trans (h.old.block j hj)⟩⟩
theorem PB.lt (h : PB w V A B n c m d) : w.heap.size + 2 ≤ V.heap.size := h.tb.lt
theorem PB.below (h : PB w V A B n c m d) (hb : Below V.heap.size V V') : PB w V' A B n c m d := h.turn (fun j hj => hb.block j (by have := h.lt; omega)) hb.size hb.os hb.tape hb.output
theorem PB.kept {ob : Nat} (h : PB w V A B n c m d) (hk : Kept (fun j => j = ob) V V') (ho : w.heap.size + 2 ≤ ob) : PB w V' A B n c m d := h.turn (fun j hj => hk.block j (by have := h.lt; omega) (by show ¬ j = ob; omega)) hk.size hk.os hk.tape hk.output
theorem PB.read {ob L k : Nat} {C : Option Addr} {r : List UInt8} (h : PB w V A B n c m d) (ho : Blk V ob 4 #[.bool true]) (hob : w.heap.size + 2 ≤ ob) (hN : IntsAt w A n ns) (hS : StrsAt w B m ss) (hnl : n ≤ maxLen) (hml : m ≤ maxLen) (hC : ∀ b o, C = some ⟨b, o, none⟩ → b < V.heap.size ∧ b ≠ ob) (hy : BytesAt V C L ((encN (ns.take 50) ++ encT (tl (tsOf ss))) ++ r)) (hLk : L ≤ k) (hLm : L ≤ maxLen) :
    Calls Try.prog 34 #[.slice C L k, .func (.func 42) #[] #[.pointer (some ⟨w.heap.size, 0, none⟩), .pointer (some ⟨ob, 0, none⟩), .pointer (some ⟨w.heap.size + 1, 0, none⟩)]] V fun e w' => e = .returned (.int .i64 (if r.isEmpty then 0 else 80)) ∧ Blk w' ob 4 #[.bool true] ∧ Kept (fun j => j = ob) V w' := by
  have hs := h.old.size
  exact back_read h.nb ho h.tb (hN.below_ h.old) (hS.below h.old) hnl hml (by omega) (by omega)
    (fun h0 b o e => by obtain ⟨b', o', e', hlt, _⟩ := hN.2 h0; rw [e] at e'; injection e' with e'; injection e' with e' _ _; omega)
    (fun h0 b o e => by obtain ⟨b', o', e', hlt, _⟩ := hS.2 h0; rw [e] at e'; injection e' with e'; injection e' with e' _ _; omega) hC hy hLk hLm
theorem PB.stop {ob L k : Nat} {C : Option Addr} (h : PB w V A B n c m d) (ho : Blk V ob 4 #[.bool true]) (hob : w.heap.size + 2 ≤ ob) (hN : IntsAt w A n ns) (hS : StrsAt w B m ss) (hnl : n ≤ maxLen) (hml : m ≤ maxLen) (hC : ∀ b o, C = some ⟨b, o, none⟩ → b < V.heap.size ∧ b ≠ ob) (hy : BytesAt V C L (encN (ns.take 50) ++ encT (tl (tsOf ss))).dropLast) (hLk : L ≤ k) (hLm : L ≤ maxLen) (hne : encN (ns.take 50) ++ encT (tl (tsOf ss)) ≠ []) :
    Calls Try.prog 34 #[.slice C L k, .func (.func 42) #[] #[.pointer (some ⟨w.heap.size, 0, none⟩), .pointer (some ⟨ob, 0, none⟩), .pointer (some ⟨w.heap.size + 1, 0, none⟩)]] V fun e w' => e = .returned (.int .i64 80) ∧ Blk w' ob 4 #[.bool true] ∧ Kept (fun j => j = ob) V w' := by
  have hs := h.old.size
  exact back_stop h.nb ho h.tb (hN.below_ h.old) (hS.below h.old) hnl hml (by omega) (by omega)
    (fun h0 b o e => by obtain ⟨b', o', e', hlt, _⟩ := hN.2 h0; rw [e] at e'; injection e' with e'; injection e' with e' _ _; omega)
    (fun h0 b o e => by obtain ⟨b', o', e', hlt, _⟩ := hS.2 h0; rw [e] at e'; injection e' with e'; injection e' with e' _ _; omega) hC hy hLk hLm hne
end
theorem row_below {w w' : World} {B : Nat} {e : TypeId} {v : Value} {n : Nat} {xs : List Value} (h : w.ownsRow B e 1 v n xs) (hb : Below w.heap.size w w') : w'.ownsRow B e 1 v n xs := by
  refine ⟨h.1, ?_⟩
  rcases h.2 with h0 | ⟨g, cap, cur, e, h1, h2, h3⟩
  · exact .inl h0
  · exact .inr ⟨g, cap, cur, e, h1, (hb.block g (Array.getElem?_eq_some_iff.1 h2).1).trans h2, h3⟩
theorem row_keep5 {w w' : World} {e : TypeId} {v : Value} {n : Nat} {xs : List Value} (h : w.ownsRow 0 e 1 v n xs) (hk : ∀ r, v.ownBlock = some r → w'.heap[r]? = w.heap[r]?) : w'.ownsRow 0 e 1 v n xs := by
  refine ⟨h.1, ?_⟩
  rcases h.2 with h0 | ⟨g, cap, cur, e, h1, h2, h3⟩
  · exact .inl h0
  · exact .inr ⟨g, cap, cur, e, h1, (hk g (by rw [e]; rfl)).trans h2, h3⟩
theorem own_lt5 {w : World} {e : TypeId} {v : Value} {n : Nat} {xs : List Value} (h : w.ownsRow 0 e 1 v n xs) {r : Nat} (hr : v.ownBlock = some r) : r < w.heap.size := by
  rcases h.2 with ⟨e, _⟩ | ⟨g, cap, cur, e, _, hb, _⟩
  · rw [e] at hr; cases hr
  · rw [e] at hr
    obtain rfl : g = r := by simpa [Value.ownBlock] using hr
    exact (Array.getElem?_eq_some_iff.1 hb).1
theorem own_lt5' {w : World} {e : TypeId} {A : Option Addr} {L c n : Nat} {xs : List Value} (h : w.ownsRow 0 e 1 (.slice A L c) n xs) {r : Nat} (hr : (Value.slice A L c).ownBlock = some r) : ∃ o, A = some ⟨r, o, none⟩ := by
  have key : ∀ v : Value, v = .slice A L c → (v = .slice none 0 0 ∨ ∃ g n cap, v = .slice (some ⟨g, 0, none⟩) n cap) → v.ownBlock = some r → ∃ o, A = some ⟨r, o, none⟩ := by
    intro v hv hw hb
    rcases hw with hw | ⟨g, n, cap, hw⟩
    · rw [hw] at hb; cases hb
    · rw [hw] at hv hb
      have h8 : some ⟨g, 0, none⟩ = A := (Value.slice.inj hv).1
      have h9 : some g = some r := hb
      have h10 : g = r := Option.some.inj h9
      subst h10
      exact ⟨0, h8.symm⟩
  exact key _ rfl (h.2.imp (fun h => h.1) (fun ⟨g, cap, _, e, _⟩ => ⟨g, _, cap, e⟩)) hr
theorem encN_take {ns : List Int} {j : Nat} {z : Int} (h : ns[j]? = some z) : encN (ns.take (j + 1)) = encN (ns.take j) ++ numL (numC z) := by
  obtain ⟨hl, rfl⟩ := List.getElem?_eq_some_iff.1 h
  rw [List.take_succ_eq_append_getElem hl]
  unfold encN
  rw [List.flatMap_append]
  simp
theorem encT_take {ts : List (List UInt8)} {j : Nat} {z : List UInt8} (h : ts[j]? = some z) : encT (ts.take (j + 1)) = encT (ts.take j) ++ textL z := by
  obtain ⟨hl, rfl⟩ := List.getElem?_eq_some_iff.1 h
  rw [List.take_succ_eq_append_getElem hl]
  unfold encT
  rw [List.flatMap_append]
  simp
theorem encN_len : ∀ ns : List Int, (encN ns).length ≤ 9 * ns.length
  | [] => Nat.le_refl _
  | n :: r => by
    have h1 := numL_len (numC n)
    have h2 := encN_len r
    show (numL (numC n) ++ encN r).length ≤ _
    rw [List.length_append, List.length_cons]; omega
theorem encT_len : ∀ ts : List (List UInt8), (∀ t ∈ ts, t.length ≤ 500) → (encT ts).length ≤ 509 * ts.length
  | [], _ => Nat.le_refl _
  | t :: r, h => by
    have h1 := numL_len t.length
    have h2 := encT_len r (fun x hx => h x (List.mem_cons_of_mem _ hx))
    have h3 := h t (List.mem_cons_self ..)
    show (textL t ++ encT r).length ≤ _
    unfold textL
    rw [List.length_append, List.length_append, List.length_cons]; omega
def PInv (w : World) (A B : Option Addr) (n c m d : Nat) (us : List Int) (v i : Value) (wr : World) : Prop := ∃ j : Nat, j ≤ us.length ∧ i = .int .i64 (j : Nat) ∧ wr.ownsRow (w.heap.size + 2) 5 1 v (encN (us.take j)).length ((encN (us.take j)).map u8V) ∧ PB w wr A B n c m d
def PInv2 (w : World) (A B : Option Addr) (n c m d : Nat) (us : List Int) (ts : List (List UInt8)) (v i : Value) (wr : World) : Prop := ∃ j : Nat, j ≤ ts.length ∧ i = .int .i64 (j : Nat) ∧ wr.ownsRow (w.heap.size + 2) 5 1 v (encN us ++ encT (ts.take j)).length ((encN us ++ encT (ts.take j)).map u8V) ∧ PB w wr A B n c m d
set_option maxHeartbeats 8000000 in
set_option maxRecDepth 100000 in
theorem packBack_walk (A B : Option Addr) (n c m d : Nat) (ns : List Int) (ss : List ByteArray) (w : World) (hN : IntsAt w A n ns) (hS : StrsAt w B m ss) (hnl : n ≤ maxLen) (hml : m ≤ maxLen) :
    Calls Try.prog 8 #[.slice A n c, .slice B m d] w fun e w' => e = .returned (.bool true) ∧ Below w.heap.size w w' := by
  have hmf : ∀ (fn : Fn) (first cap : Array Value) (w : World), (Instr.makeFunc fn first cap).run Try.prog w = .ok (.func fn first cap) w := fun _ _ _ _ => rfl
  have hNl := hN.1
  have hSl := hS.1
  have HNL := Lib.hid hnl
  have HML := Lib.hid hml
  unfold maxLen at hnl hml
  obtain ⟨us, hus⟩ : ∃ us, us = ns.take 50 := ⟨_, rfl⟩
  obtain ⟨ts, hts⟩ : ∃ ts, ts = tl (tsOf ss) := ⟨_, rfl⟩
  have hul : us.length = min 50 n := by rw [hus, List.length_take, hNl]
  have htl : ts.length = (tsOf ss).length := by rw [hts]; unfold tl; rw [List.length_map]
  have hpre : (tsOf ss).length ≤ m ∧ (tsOf ss).length ≤ 50 := by
    have hp : tsOf ss <+: ss := (List.takeWhile_prefix _).trans (List.take_prefix _ _)
    have hp2 : tsOf ss <+: ss.take 50 := List.takeWhile_prefix _
    have l1 := hp.length_le
    have l2 := hp2.length_le
    rw [List.length_take] at l2
    omega
  have htb : ∀ t ∈ ts, t.length ≤ 500 := by
    intro t ht
    obtain ⟨i, hi⟩ := List.getElem?_of_mem ht
    rw [hts] at hi
    unfold tl at hi
    rw [List.getElem?_map] at hi
    obtain ⟨s, h1, h2⟩ := Option.map_eq_some_iff.1 hi
    have h3 := (tsOf_get h1).2.2
    rw [← h2]; exact h3
  have HUS := Lib.hid hus
  have HTS := Lib.hid hts
  have HUL := Lib.hid hul
  have HTL := Lib.hid htl
  have HPRE := Lib.hid hpre
  have HTB := Lib.hid htb
  have HEND := Lib.hid (tsOf_end (ss := ss))
  have HN := Lib.hid hN
  have HS := Lib.hid hS
  have pb0 : PB w ((w.alloc (.cells #[.slice A n c] 64)).alloc (.cells #[.slice B m d] 55)) A B n c m d :=
    ⟨(Blk.new w _ _).alloc _, by simpa using Blk.new (w.alloc (.cells #[.slice A n c] 64)) 55 #[.slice B m d], ((Below.refl _ w).alloc (Nat.le_refl _) _).alloc (by simp) _⟩
  clear hN hS hus hts hul htl hpre htb
  go_enter Try.func8, Try.ntmps8
  go_wp2_with fail
  refine (writing_any _).mono ?_
  rintro e w2 ⟨rfl, b2⟩
  have pb2 := pb0.below b2
  clear pb0 b2
  go_wp2_with fail
  refine (reading_any _).mono ?_
  rintro e w3 ⟨rfl, b3⟩
  have pb3 := pb2.below b3
  have q0 : w3.cell? ⟨w.heap.size, 0, none⟩ = some (.slice A n c) := pb3.nb.cell 0
  clear pb2 b3
  go_wp2_with fail
  go_loopw [5, 23] (fun v i wr => PInv w A B n c m d us v i wr) (fun _ i _ => 50 - (intOf i).toNat)
  case atStart => exact ⟨0, Nat.zero_le _, rfl, ⟨rfl, .inl ⟨rfl, rfl⟩⟩, pb3⟩
  case round =>
    clear pb3 q0
    obtain ⟨j, hj, rfl, hrow, pb⟩ := hrel
    have hj50 : j ≤ 50 := by have := HUL.out; omega
    have hxl := encN_len (us.take j)
    have hxl2 : (us.take j).length ≤ j := List.length_take_le _ _
    have hbig : (encN (us.take j)).length ≤ 450 := by omega
    clear hxl hxl2
    obtain ⟨A1, c1, e1, hby, _⟩ := row_bytes hrow
    by_cases hlt : j < us.length
    · have hltn : j < n := by have := HUL.out; omega
      have hlt' : (j : Int) < (n : Int) := by omega
      have h50 : ¬ (50 : Int) ≤ (j : Int) := by have := HUL.out; omega
      obtain ⟨b, o, rfl, hbw, hcells⟩ := HN.out.2 (by omega)
      obtain ⟨z, hz⟩ : ∃ z, us[j]? = some z := ⟨us[j], List.getElem?_eq_getElem _⟩
      have hz2 : ns[j]? = some z := by rw [← hz, HUS.out, List.getElem?_take_of_lt (by omega)]
      have y1 : wr.cell? ⟨b, o + j, none⟩ = some (.int .i64 z) := by
        rw [pb.old.cell (p := ⟨b, o + j, none⟩) hbw]; exact hcells j z hz2
      have C := Lib.hid (num_any (c := c1) hby (by omega) z)
      have HET := Lib.hid (encN_take hz)
      have PBH := Lib.hid pb
      obtain ⟨L, hL⟩ : ∃ L, L = (encN (us.take j)).length := ⟨_, rfl⟩
      rw [← hL] at C e1
      subst e1
      clear hcells hz hz2 hrow hby hL hbig pb
      go_wp2_with fail
      refine C.out.mono ?_
      rintro e w4 ⟨v, rfl, ho4, b4⟩
      have HO4 := Lib.hid (row_base ho4 PBH.out.lt)
      have PB4 := Lib.hid (PBH.out.below b4)
      clear ho4 b4
      go_wp2
      go_roundw
      case rel => exact ⟨j + 1, by omega, by go_num, by rw [HET.out]; exact HO4.out, PB4.out⟩
      case measure => simp [intOf]; omega
    · have hje : us.take j = us := List.take_of_length_le (by omega)
      rw [hje] at hrow
      have HROW := Lib.hid hrow
      have PBH := Lib.hid pb
      have t0 : wr.cell? ⟨w.heap.size + 1, 0, none⟩ = some (.slice B m d) := pb.tb.cell 0
      have hstart : (∃ b o z, A = some ⟨b, o, none⟩ ∧ wr.cell? ⟨b, o + j, none⟩ = some (.int .i64 z) ∧ (j : Int) < (n : Int) ∧ (50 : Int) ≤ (j : Int)) ∨ ¬ (j : Int) < (n : Int) := by
        by_cases h6 : j < n
        · left
          obtain ⟨b, o, e, hbw, hcells⟩ := HN.out.2 (by omega)
          obtain ⟨z, hz⟩ : ∃ z, ns[j]? = some z := ⟨ns[j]'(by omega), List.getElem?_eq_getElem _⟩
          exact ⟨b, o, z, e, (pb.old.cell (p := ⟨b, o + j, none⟩) hbw).trans (hcells j z hz), by omega, by have := HUL.out; omega⟩
        · right; omega
      obtain ⟨L0, hL0⟩ : ∃ L0, L0 = (encN (us.take j)).length := ⟨_, rfl⟩
      rw [← hL0] at e1
      subst e1
      rw [← hje] at HROW
      rw [← hL0] at HROW
      have HL0 := Lib.hid hL0
      have HJE := Lib.hid hje
      clear hrow hby pb hje hL0 hbig hlt
      rcases hstart with ⟨b, o, z, rfl, y1, hlt', h50⟩ | hlt'
      all_goals
        go_wp2_with fail
        go_loopw [5, 36] (fun v i wr => PInv2 w _ B n c m d us ts v i wr) (fun _ i _ => 50 - (intOf i).toNat)
        case atStart =>
          refine ⟨0, Nat.zero_le _, rfl, ?_, PBH.out⟩
          have := HROW.out
          rw [HL0.out, HJE.out] at this
          rw [List.take_zero, show encT [] = [] from rfl, List.append_nil]
          rw [HL0.out, HJE.out]
          exact this
        case round =>
          clear HROW PBH t0 HL0 HJE
          obtain ⟨i, hi, rfl, hrow, pb⟩ := hrel
          have hi50 : i ≤ 50 := by have := HTL.out; have := HPRE.out; omega
          have hxl := encN_len us
          have hxl2 : us.length ≤ 50 := by have := HUL.out; omega
          have hyl := encT_len (ts.take i) (fun t ht => HTB.out t (List.mem_of_mem_take ht))
          have hyl2 : (ts.take i).length ≤ i := List.length_take_le _ _
          have hbig : (encN us ++ encT (ts.take i)).length ≤ 26000 := by rw [List.length_append]; omega
          clear hxl hxl2 hyl hyl2
          obtain ⟨A1, c1, e1, hby, _⟩ := row_bytes hrow
          by_cases hlt : i < ts.length
          · obtain ⟨s, hs0⟩ : ∃ s, (tsOf ss)[i]? = some s := ⟨(tsOf ss)[i]'(by have := HTL.out; omega), List.getElem?_eq_getElem _⟩
            obtain ⟨hs1, hs50, hs500⟩ := tsOf_get hs0
            have hti : ts[i]? = some s.data.toList := by rw [HTS.out]; unfold tl; rw [List.getElem?_map, hs0]; rfl
            have hlt2 : (i : Int) < (m : Int) := by have := HTL.out; have := HPRE.out; omega
            have hi50' : ¬ (50 : Int) ≤ (i : Int) := by omega
            have hs5 : ¬ (500 : Int) < (s.size : Int) := by omega
            obtain ⟨b2, o2, rfl, hbw, hcells⟩ := HS.out.2 (by omega)
            have y2 : wr.cell? ⟨b2, o2 + i, none⟩ = some (.string s) := by
              rw [pb.old.cell (p := ⟨b2, o2 + i, none⟩) hbw]; exact hcells i s hs1
            have C := Lib.hid (text_any (c := c1) hby (by omega) s (by omega))
            have HET := Lib.hid (show encN us ++ encT (ts.take (i + 1)) = (encN us ++ encT (ts.take i)) ++ textL s.data.toList by rw [encT_take hti, List.append_assoc])
            have PBH := Lib.hid pb
            obtain ⟨L, hL⟩ : ∃ L, L = (encN us ++ encT (ts.take i)).length := ⟨_, rfl⟩
            rw [← hL] at C e1
            subst e1
            clear hcells hs0 hs1 hti hrow hby hL hbig pb
            go_wp2_with fail
            refine C.out.mono ?_
            rintro e w4 ⟨v, rfl, ho4, b4⟩
            have HO4 := Lib.hid (row_base ho4 PBH.out.lt)
            have PB4 := Lib.hid (PBH.out.below b4)
            clear ho4 b4
            go_wp2
            go_roundw
            case rel => exact ⟨i + 1, by omega, by go_num, by rw [HET.out]; exact HO4.out, PB4.out⟩
            case measure => simp [intOf]; omega
          · have hie : ts.take i = ts := List.take_of_length_le (by omega)
            rw [hie] at hrow hby hbig e1
            have hil : i = (tsOf ss).length := by have := HTL.out; omega
            have hend := HEND.out
            rw [← hil] at hend
            have hw3 : ¬ (i : Int) < (m : Int) ∨ (∃ b2 o2 s, B = some ⟨b2, o2, none⟩ ∧ wr.cell? ⟨b2, o2 + i, none⟩ = some (.string s) ∧ (i : Int) < (m : Int) ∧ ((50 : Int) ≤ (i : Int) ∨ (¬ (50 : Int) ≤ (i : Int) ∧ (500 : Int) < (s.size : Int)))) := by
              by_cases h6 : i < m
              · right
                obtain ⟨b2, o2, e, hbw, hcells⟩ := HS.out.2 (by omega)
                obtain ⟨s, hs⟩ : ∃ s, ss[i]? = some s := ⟨ss[i]'(by omega), List.getElem?_eq_getElem _⟩
                refine ⟨b2, o2, s, e, (pb.old.cell (p := ⟨b2, o2 + i, none⟩) hbw).trans (hcells i s hs), by omega, ?_⟩
                rcases hend with h7 | h7 | ⟨s', h7, h8⟩
                · omega
                · left; omega
                · rw [hs] at h7; injection h7 with h7; subst h7
                  by_cases h9 : 50 ≤ i
                  · left; omega
                  · right; omega
              · left; omega
            -- what was written, whole
            have hall : encN us ++ encT ts = encN (ns.take 50) ++ encT (tl (tsOf ss)) := by rw [HUS.out, HTS.out]
            rw [hall] at hrow hby hbig e1
            obtain ⟨al, hal⟩ : ∃ al, al = encN (ns.take 50) ++ encT (tl (tsOf ss)) := ⟨_, rfl⟩
            rw [← hal] at hrow hby hbig e1
            have HAL := Lib.hid hal
            obtain ⟨L, hL⟩ : ∃ L, L = al.length := ⟨_, rfl⟩
            obtain ⟨A1', c1', e1', hcap, _⟩ := row_shape (row_base hrow (Nat.zero_le _))
            rw [e1] at e1'
            injection e1' with e11 _ e13
            subst e11
            subst e13
            have hLb26 : L ≤ 26000 := by rw [hL]; exact hbig
            have hlt3 := pb.lt
            have rblk : ∀ b o, A1 = some ⟨b, o, none⟩ → w.heap.size + 2 ≤ b ∧ b < wr.heap.size := fun b o e => by
              rw [e1] at hrow
              rcases hrow.2 with ⟨e5, _⟩ | ⟨g, cap, cur, e5, hB, hg, _⟩
              · have := (Value.slice.inj e5).1; rw [e] at this; cases this
              · have h8 := (Value.slice.inj e5).1
                rw [e] at h8
                have h9 := Option.some.inj h8
                injection h9 with h9 _ _
                rw [h9]
                exact ⟨hB, (Array.getElem?_eq_some_iff.1 hg).1⟩
            -- the first reading
            have ob1 : Blk (wr.alloc (.cells #[.bool true] 4)) wr.heap.size 4 #[.bool true] := Blk.new wr _ _
            have bel1 : Below wr.heap.size wr (wr.alloc (.cells #[.bool true] 4)) := (Below.refl _ wr).alloc (Nat.le_refl _) _
            have pb1 := pb.below bel1
            have C1 := Lib.hid (pb1.read (C := A1) (k := c1) (r := []) ob1 (by omega) HN.out HS.out HNL.out HML.out (fun b o e => by have := rblk b o e; simp; omega) (by rw [List.append_nil, ← hal]; exact hby.below bel1) hcap (by unfold maxLen; omega))
            rw [show (if ([] : List UInt8).isEmpty = true then (0 : Int) else 80) = 0 from rfl] at C1
            have HROW1 := Lib.hid (row_below (row_base hrow (Nat.zero_le _)) bel1)
            rw [← hL] at C1 e1 hcap
            subst e1
            have PB1 := Lib.hid pb1
            have RB := Lib.hid rblk
            have HL := Lib.hid hL
            clear hrow hby hie hil hend hall hal hL ob1 bel1 pb1 pb rblk hlt
            rcases hw3 with hx | ⟨b2, o2, s, rfl, y2, hx, hx2 | ⟨hx2, hx3⟩⟩
            all_goals
              go_wp2_with fail
              ((with_reducible refine C1.out.mono ?_))
              rintro e w5 ⟨rfl, ho5, k5⟩
              have pb5 := PB1.out.kept k5 (by omega)
              have s5 : wr.heap.size + 1 ≤ w5.heap.size := by have := k5.size; simpa using this
              have row5 : w5.ownsRow 0 5 1 (.slice A1 L c1) al.length (al.map u8V) := row_keep5 HROW1.out (fun r hr => k5.block r (by
                have := own_lt5 HROW1.out hr; simpa using this) (by
                have := own_lt5' HROW1.out hr
                obtain ⟨o, e⟩ := this
                have := RB.out r o e
                show ¬ r = wr.heap.size
                omega))
              rw [HL.out] at row5
              obtain ⟨A2, c2, w6, hrun6, hc6, hby6, hold6, hA6, hk6, hs6, e61, e62, e63⟩ := push_keeps (z := 0) 30 row5 (by rw [← HL.out]; omega)
              rw [← HL.out] at hrun6 hc6 hby6 hold6
              have H6 := Lib.hid hrun6
              have pb6 := pb5.turn (V' := w6) (fun j hj => hk6 j (by omega) (fun o e => by have := RB.out j o e; omega)) hs6 e61 e62 e63
              have ho6 : Blk w6 wr.heap.size 4 #[.bool true] := (hk6 _ (by omega) (fun o e => by have := RB.out _ o e; omega)).trans ho5
              have C2 := Lib.hid (pb6.read (C := A2) (k := c2) (r := [0]) ho6 (by omega) HN.out HS.out HNL.out HML.out (fun b o e => by
                obtain ⟨h7, h8⟩ := hA6 b o e
                refine ⟨h7, ?_⟩
                rcases h8 with h8 | h8
                · have := RB.out b o h8; omega
                · omega) (by rw [← HAL.out]; exact hby6) hc6 (by unfold maxLen; omega))
              rw [show (if ([0] : List UInt8).isEmpty = true then (0 : Int) else 80) = 80 from rfl] at C2
              have HOLD := Lib.hid hold6
              have PB6 := Lib.hid pb6
              clear ho5 k5 pb5 row5 hrun6 hby6 hold6 hA6 hk6 ho6 pb6 C1 PB1 HROW1
              go_wp2_with (at_builtin; refine wpList_append_run rfl (.tmp 56) (.tmp 57) 30 rfl _ _ _ rfl rfl H6.out ?_)
              ((with_reducible refine C2.out.mono ?_))
              rintro e w7 ⟨rfl, ho7, k7⟩
              have o7 : w7.cell? ⟨wr.heap.size, 0, none⟩ = some (.bool true) := ho7.cell 0
              have pb7 := PB6.out.kept k7 (by omega)
              have s7 := k7.size
              rcases Nat.eq_zero_or_pos L with hL0 | hL0
              · have HB7 := Lib.hid pb7.old
                subst hL0
                clear ho7 k7 pb7 C2
                go_wp2
                go_ret
                exact ⟨rfl, HB7.out⟩
              · have hne : al ≠ [] := fun e => by have := HL.out; rw [e] at this; simp at this; omega
                have hby7 : BytesAt w7 A1 (L - 1) al.dropLast := by
                  have h8 := (HOLD.out.kept k7 (fun b o e => by have := RB.out b o e; show ¬ b = wr.heap.size; omega)).cut (k := L - 1) (by omega)
                  rw [dropLast_take, ← HL.out]; exact h8
                have C3 := Lib.hid (pb7.stop (C := A1) (L := L - 1) (k := c1) ho7 (by omega) HN.out HS.out HNL.out HML.out (fun b o e => by have := RB.out b o e; omega) (by rw [← HAL.out]; exact hby7) (by omega) (by unfold maxLen; omega) (by rw [← HAL.out]; exact hne))
                have PB7 := Lib.hid pb7
                have hLb : ((L : Int) == 0) = false := by rw [beq_eq_false_iff_ne]; omega
                have hL1 : (1 : Int) ≤ (L : Int) := by omega
                have hL2 : (L : Int) - 1 ≤ (c1 : Int) := by omega
                have hL3 : ((L : Int) - 1).toNat = L - 1 := by omega
                clear ho7 k7 pb7 C2 hby7 hne
                go_wp2_with fail
                ((with_reducible refine C3.out.mono ?_))
                rintro e w8 ⟨rfl, ho8, k8⟩
                have o8 : w8.cell? ⟨wr.heap.size, 0, none⟩ = some (.bool true) := ho8.cell 0
                have HB8 := Lib.hid (PB7.out.kept k8 (by omega)).old
                clear ho8 k8
                go_wp2
                go_ret
                exact ⟨rfl, HB8.out⟩
end Go.Proofs.Ytldngpgkoohbmaa
