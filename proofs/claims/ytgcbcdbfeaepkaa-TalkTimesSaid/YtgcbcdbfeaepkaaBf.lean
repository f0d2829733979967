/- A buffer in memory; New, Full, Gone, Put. -/
import Derived.Test.YtgcbcdbfeaepkaaRo
namespace Go.Proofs.Ytgcbcdbfeaepkaa
open Go.RowKit Go.Maps

/-- The buffer at bp: its bytes, how many may be there, how many have gone. -/
structure BufAt (w : World) (bp : Nat) (A : Option Addr) (c : Nat) (bs : List UInt8) (most : Nat) (gone : Int) : Prop where
  top : Blk w bp 161 #[.slice A bs.length c, .int .i64 (most : Nat), .int .i64 gone]
  row : RowAt w A bs.length c bs
  fit : bs.length ≤ most
  most1 : 1 ≤ most
  most2 : most ≤ 2000
  apart : ¬ InB A bp
/-- Its blocks. -/
def bufF (bp : Nat) (A : Option Addr) (j : Nat) : Prop := j = bp ∨ InB A j
section
variable {w w' : World} {bp : Nat} {A B : Option Addr} {c m d most : Nat} {bs xs : List UInt8} {gone : Int}
theorem BufAt.lt (h : BufAt w bp A c bs most gone) {j : Nat} (hj : bufF bp A j) : j < w.heap.size := by
  rcases hj with rfl | hj
  · exact h.top.lt
  · exact h.row.lt hj
theorem BufAt.keep (h : BufAt w bp A c bs most gone) (hb : ∀ b, bufF bp A b → b < w.heap.size → w'.heap[b]? = w.heap[b]?) (hs : w.heap.size ≤ w'.heap.size) : BufAt w' bp A c bs most gone :=
  ⟨(hb bp (.inl rfl) h.top.lt).trans h.top, h.row.keep (fun b hb' hlt => hb b (.inr hb') hlt) hs, h.fit, h.most1, h.most2, h.apart⟩
theorem BufAt.kept {X : Nat → Prop} (h : BufAt w bp A c bs most gone) (hk : Kept X w w') (hX : ∀ b, bufF bp A b → ¬ X b) : BufAt w' bp A c bs most gone := h.keep (fun b hb hlt => hk.block b hlt (hX b hb)) hk.size
theorem BufAt.below (h : BufAt w bp A c bs most gone) (hb : Below w.heap.size w w') : BufAt w' bp A c bs most gone := h.keep (fun b _ hlt => hb.block b hlt) hb.size
theorem BufAt.alloc (h : BufAt w bp A c bs most gone) (o : Obj) : BufAt (w.alloc o) bp A c bs most gone := h.keep (fun b _ hlt => Below.heap_alloc w o b hlt) (by simp)
theorem BufAt.drewN (h : BufAt w bp A c bs most gone) (k : Nat) : BufAt (w.drewN k) bp A c bs most gone := ⟨h.top, h.row.drewN k, h.fit, h.most1, h.most2, h.apart⟩
/-- How many may be there. -/
def mostOf (k : Int) : Nat := (min (max k 1) 2000).toNat
set_option maxRecDepth 100000 in
theorem bnew_any (k : Int) (w : World) : Calls Try.prog 42 #[.int .i64 k] w fun e w' => e = .returned (.pointer (some ⟨w.heap.size, 0, none⟩)) ∧ BufAt w' w.heap.size none 0 [] (mostOf k) 0 ∧ Below w.heap.size w w' ∧ w'.heap.size = w.heap.size + 1 := by
  have HX := Lib.hid (fun (n : Nat) (h1 : 1 ≤ n) (h2 : n ≤ 2000) => show BufAt (w.alloc (.cells #[.slice none 0 0, .int .i64 (n : Nat), .int .i64 0] 161)) w.heap.size none 0 [] n 0 from
    ⟨Blk.new w _ _, RowAt.nil _, Nat.zero_le _, h1, h2, fun ⟨o, e⟩ => by cases e⟩)
  have HE := Lib.hid (show ((mostOf k : Nat) : Int) = min (max k 1) 2000 ∧ 1 ≤ mostOf k ∧ mostOf k ≤ 2000 by unfold mostOf; omega)
  have HB := Lib.hid (fun (o : Obj) => (Below.refl w.heap.size w).alloc (Nat.le_refl _) o)
  go_enter Try.func42, Try.ntmps42
  go_wp2
  all_goals
    go_ret
    refine ⟨rfl, ?_, HB.out _, by simp⟩
    have := HX.out (mostOf k) HE.out.2.1 HE.out.2.2
    rw [HE.out.1] at this
    first | (rw [show min (max k 1) 2000 = 1 by omega] at this; exact this) | (rw [show min (max k 1) 2000 = 2000 by omega] at this; exact this) | (rw [show min (max k 1) 2000 = k by omega] at this; exact this)
set_option maxRecDepth 100000 in
theorem bfull_any (h : BufAt w bp A c bs most gone) : Calls Try.prog 107 #[.pointer (some ⟨bp, 0, none⟩)] w fun e w' => e = .returned (.bool (decide (bs.length = most))) ∧ ∃ k, w' = w.drewN k := by
  have hr := h.row.le
  obtain ⟨c0, c1, c2, f0, f1, f2⟩ := blk3 h.top
  clear h
  go_enter Try.func107, Try.ntmps107
  go_wp2
  go_quiet (fail)
  go_wp2
  go_ret
  refine ⟨ret_bool (decide_eq_decide.2 ?_), _, rfl⟩
  omega
/-- What has gone by a Put. -/
def goneBy (bs xs : List UInt8) (most : Nat) : Nat := (bs ++ xs).length - most
theorem put_plain (g : Nat) (bs xs : List UInt8) : bs.drop (min g bs.length) ++ xs.drop (g - min g bs.length) = (bs ++ xs).drop g := by
  rw [List.drop_append]
  rcases Nat.le_total g bs.length with h | h
  · rw [Nat.min_eq_left h, Nat.sub_self, show g - bs.length = 0 by omega]
  · rw [Nat.min_eq_right h, List.drop_of_length_le (Nat.le_refl _), List.drop_of_length_le h]
theorem BytesAt.behind (h : BytesAt w B m xs) {k d : Nat} (hk : k ≤ m) (hd : m ≤ d) : BytesAt w (Go.Proofs.Ytgcbcdbfeaepkaa.behind B d k) (m - k) (xs.drop k) :=
  ⟨by rw [List.length_drop, h.1], fun hm => by
    obtain ⟨b, o, rfl, hlt, hc⟩ := h.2 (by omega)
    refine ⟨b, o + k, ?_, hlt, fun i z hi => ?_⟩
    · unfold Go.Proofs.Ytgcbcdbfeaepkaa.behind
      rw [if_neg (by omega)]
      simp [Addr.add_mid]
    · rw [List.getElem?_drop] at hi
      rw [Nat.add_assoc]
      exact hc _ z hi⟩
set_option maxHeartbeats 2000000 in
set_option maxRecDepth 100000 in
theorem bput_any (h : BufAt w bp A c bs most gone) (hx : BytesAt w B m xs) (hd : m ≤ d) (hdm : d ≤ maxLen) (hm : m ≤ 1000000000) (hg0 : 0 ≤ gone) (hg1 : gone ≤ 1000000000000) :
    Calls Try.prog 79 #[.pointer (some ⟨bp, 0, none⟩), .slice B m d] w fun e w' => e = .returned (.int .i64 (goneBy bs xs most : Nat)) ∧ ∃ A' c', BufAt w' bp A' c' ((bs ++ xs).drop (goneBy bs xs most)) most (gone + (goneBy bs xs most : Nat)) ∧ Kept (bufF bp A) w w' ∧ ∀ j, InB A' j → InB A j ∨ w.heap.size ≤ j := by
  have mixed : Try.prog.follows .mixedOrders = true := by kernel_rfl
  have hxl := hx.1
  obtain ⟨n, hn⟩ : ∃ n, n = bs.length := ⟨_, rfl⟩
  obtain ⟨g, hg⟩ : ∃ g, g = goneBy bs xs most := ⟨_, rfl⟩
  have hgd : g = n + m - most := by rw [hg, hn]; unfold goneBy; rw [List.length_append, hxl]
  obtain ⟨old, hold⟩ : ∃ old, old = min g n := ⟨_, rfl⟩
  have hrow := h.row
  have htop := h.top
  have hfit := h.fit
  have hm1 := h.most1
  have hm2 := h.most2
  have hap := h.apart
  rw [← hn] at hrow htop hfit
  rw [← hg]
  have hrd := hrow.drop (k := old) (by omega)
  have hxd := hx.behind (k := g - old) (d := d) (by omega) hd
  have hpl := put_plain g bs xs
  rw [← hn, ← hold] at hpl
  have hlen : n - old + (m - (g - old)) = ((bs ++ xs).drop g).length := by rw [List.length_drop, List.length_append, ← hn, hxl]; omega
  have hfit2 : ((bs ++ xs).drop g).length ≤ most := by rw [← hlen]; omega
  have hle := hrow.le
  have hcm := hrow.max
  unfold maxLen at hcm hdm
  -- region 3's append, at whatever world that has drawn
  obtain ⟨A1, hA1⟩ : ∃ A1, A1 = behind A c old := ⟨_, rfl⟩
  obtain ⟨B1, hB1⟩ : ∃ B1, B1 = behind B d (g - old) := ⟨_, rfl⟩
  have hin : ∀ j, InB A1 j → InB A j := fun j hj => hrow.behind_in (hA1 ▸ hj)
  rw [← hA1] at hrd
  rw [← hB1] at hxd
  have hA2 : (if c = old then A else Option.map (fun x => x.add old) A) = A1 := hA1.symm
  have hB2 : (if d = g - old then B else Option.map (fun x => x.add (g - old)) B) = B1 := hB1.symm
  have HIN := Lib.hid hin
  have HAPP := Lib.hid (row_append (d := d - (g - old)) 52 hrd.drew.drew (show BytesAt w.drew.drew _ _ _ from hxd) (by omega))
  clear hA1 hB1 hin
  have q0 : (if (n : Int) + (m : Int) - (most : Int) < 0 then 0 else (n : Int) + (m : Int) - (most : Int)) = (g : Int) := by split <;> omega
  have q1 : (if n < g then (n : Int) else (g : Int)) = (old : Int) := by split <;> omega
  have q1' : (if g ≤ n then (g : Int) else (n : Int)) = (old : Int) := by split <;> omega
  have q1'' : (if g < n then (g : Int) else (n : Int)) = (old : Int) := by split <;> omega
  have q2 : IntKind.i64.wrap ((n : Int) + (m : Int)) = (n : Int) + (m : Int) := IntWalk.i64_in _ (by omega)
  have q3 : IntKind.i64.wrap ((n : Int) + (m : Int) - (most : Int)) = (n : Int) + (m : Int) - (most : Int) := IntWalk.i64_in _ (by omega)
  have q4 : IntKind.i64.wrap ((g : Int) - (old : Int)) = ((g - old : Nat) : Int) := by rw [IntWalk.i64_in _ (by omega)]; omega
  have q5 : IntKind.i64.wrap (gone + (g : Int)) = gone + (g : Int) := IntWalk.i64_in _ (by omega)
  obtain ⟨c0, c1, c2, f0, f1, f2⟩ := blk3 htop
  have HN := Lib.hid hn
  have HG := Lib.hid hg
  have HPL := Lib.hid hpl
  have HLEN := Lib.hid hlen
  have HROW := Lib.hid hrow
  have HTOP := Lib.hid htop
  have HFIT := Lib.hid hfit2
  have HAP := Lib.hid hap
  have b1 : old ≤ n := by omega
  have b2 : g - old ≤ m := by omega
  have b3 : old ≤ c := by omega
  have b4 : g - old ≤ d := by omega
  clear hn hg hgd hold hrow htop hfit2 hap hrd hxd hpl hlen hfit hxl hx h
  go_enter Try.func79, Try.ntmps79
  go_wp2_with fail
  refine wp_region_held_drew (S := fun W => W.cell? ⟨bp, 0, none⟩ = some (.slice A n c) ∧ W.cell? ⟨bp, 1, none⟩ = some (.int .i64 (most : Nat))) mixed ⟨c0, c1⟩ (fun hS => ?_)
  refine wpAnyH_take (i := 0) (v := .pointer (some ⟨bp, 0, none⟩)) rfl (by kernel_rfl) (by kernel_rfl) (by kernel_rfl) (fun _ _ _ h => h) (Or.inl ⟨by rfl, fun W hW => by obtain ⟨h0, h1⟩ := hW; go_simp⟩) hS ?_
  refine wpAnyH_take (i := 1) (v := .pointer (some ⟨bp, 0, none⟩)) rfl (by kernel_rfl) (by kernel_rfl) (by kernel_rfl) (fun _ _ _ h => h) (Or.inl ⟨by rfl, fun W hW => by obtain ⟨h0, h1⟩ := hW; go_simp⟩) hS ?_
  refine wpAnyH_take (i := 2) (v := .pointer (some ⟨bp, 0, none⟩)) rfl (by kernel_rfl) (by kernel_rfl) (by kernel_rfl) (fun _ _ _ h => h) (Or.inl ⟨by rfl, fun W hW => by obtain ⟨h0, h1⟩ := hW; go_simp⟩) hS ?_
  refine wpAnyH_take (i := 3) (v := .slice A n c) rfl (by kernel_rfl) (by kernel_rfl) (by kernel_rfl) (fun _ _ _ h => h) (Or.inl ⟨by rfl, fun W hW => by obtain ⟨h0, h1⟩ := hW; go_simp⟩) hS ?_
  refine wpAnyH_take (i := 4) (v := .int .i64 (n : Nat)) rfl (by kernel_rfl) (by kernel_rfl) (by kernel_rfl) (fun _ _ _ h => h) (Or.inl ⟨by rfl, fun W hW => by obtain ⟨h0, h1⟩ := hW; go_simp⟩) hS ?_
  refine wpAnyH_take (i := 5) (v := .slice B m d) rfl (by kernel_rfl) (by kernel_rfl) (by kernel_rfl) (fun _ _ _ h => h) (Or.inl ⟨by rfl, fun W hW => by obtain ⟨h0, h1⟩ := hW; go_simp⟩) hS ?_
  refine wpAnyH_take (i := 6) (v := .int .i64 (m : Nat)) rfl (by kernel_rfl) (by kernel_rfl) (by kernel_rfl) (fun _ _ _ h => h) (Or.inl ⟨by rfl, fun W hW => by obtain ⟨h0, h1⟩ := hW; go_simp⟩) hS ?_
  refine wpAnyH_take (i := 7) (v := .int .i64 ((n : Int) + (m : Int))) rfl (by kernel_rfl) (by kernel_rfl) (by kernel_rfl) (fun _ _ _ h => h) (Or.inl ⟨by rfl, fun W hW => by obtain ⟨h0, h1⟩ := hW; go_simp⟩) hS ?_
  refine wpAnyH_take (i := 8) (v := .pointer (some ⟨bp, 0, none⟩)) rfl (by kernel_rfl) (by kernel_rfl) (by kernel_rfl) (fun _ _ _ h => h) (Or.inl ⟨by rfl, fun W hW => by obtain ⟨h0, h1⟩ := hW; go_simp⟩) hS ?_
  refine wpAnyH_take (i := 9) (v := .pointer (some ⟨bp, 0, none⟩)) rfl (by kernel_rfl) (by kernel_rfl) (by kernel_rfl) (fun _ _ _ h => h) (Or.inl ⟨by rfl, fun W hW => by obtain ⟨h0, h1⟩ := hW; go_simp⟩) hS ?_
  refine wpAnyH_take (i := 10) (v := .pointer (some ⟨bp, 1, none⟩)) rfl (by kernel_rfl) (by kernel_rfl) (by kernel_rfl) (fun _ _ _ h => h) (Or.inl ⟨by rfl, fun W hW => by obtain ⟨h0, h1⟩ := hW; go_simp⟩) hS ?_
  refine wpAnyH_take (i := 11) (v := .int .i64 (most : Nat)) rfl (by kernel_rfl) (by kernel_rfl) (by kernel_rfl) (fun _ _ _ h => h) (Or.inl ⟨by rfl, fun W hW => by obtain ⟨h0, h1⟩ := hW; go_simp⟩) hS ?_
  refine wpAnyH_take (i := 12) (v := .int .i64 ((n : Int) + (m : Int) - (most : Int))) rfl (by kernel_rfl) (by kernel_rfl) (by kernel_rfl) (fun _ _ _ h => h) (Or.inl ⟨by rfl, fun W hW => by obtain ⟨h0, h1⟩ := hW; go_simp⟩) hS ?_
  refine wpAnyH_ready (rs := [13]) (by kernel_rfl) (by simp) ?_
  refine AllReadyH.cons rfl (fun K hK => ?_) AllReadyH.nil
  go_simp
  refine hK.out _ _ hS (fun hS => ?_)
  clear hK K
  refine wpAnyH_ready (rs := [14]) (by kernel_rfl) (by simp) ?_
  refine AllReadyH.cons rfl (fun K hK => ?_) AllReadyH.nil
  go_simp
  refine hK.out _ _ hS (fun hS => ?_)
  clear hK K
  refine wpAnyH_done (by kernel_rfl) ?_ _
  clear hS
  clear q0
  go_wp2_with fail
  refine wp_region_held_drew (S := fun W => W.cell? ⟨bp, 1, none⟩ = some (.int .i64 (most : Nat))) mixed c1 (fun hS => ?_)
  refine wpAnyH_take (i := 0) (v := .pointer (some ⟨bp, 0, none⟩)) rfl (by kernel_rfl) (by kernel_rfl) (by kernel_rfl) (fun _ _ _ h => h) (Or.inl ⟨by rfl, fun W hW => by have h0 := hW; go_simp⟩) hS ?_
  refine wpAnyH_take (i := 1) (v := .pointer (some ⟨bp, 0, none⟩)) rfl (by kernel_rfl) (by kernel_rfl) (by kernel_rfl) (fun _ _ _ h => h) (Or.inl ⟨by rfl, fun W hW => by have h0 := hW; go_simp⟩) hS ?_
  refine wpAnyH_take (i := 2) (v := .pointer (some ⟨bp, 0, none⟩)) rfl (by kernel_rfl) (by kernel_rfl) (by kernel_rfl) (fun _ _ _ h => h) (Or.inl ⟨by rfl, fun W hW => by have h0 := hW; go_simp⟩) hS ?_
  refine wpAnyH_take (i := 3) (v := .pointer (some ⟨bp, 0, none⟩)) rfl (by kernel_rfl) (by kernel_rfl) (by kernel_rfl) (fun _ _ _ h => h) (Or.inl ⟨by rfl, fun W hW => by have h0 := hW; go_simp⟩) hS ?_
  refine wpAnyH_take (i := 5) (v := .int .i64 (old : Nat)) rfl (by kernel_rfl) (by kernel_rfl) (by kernel_rfl) (fun _ _ _ h => h) (Or.inl ⟨by rfl, fun W hW => by have h0 := hW; go_simp⟩) hS ?_
  refine wpAnyH_take (i := 7) (v := .slice B m d) rfl (by kernel_rfl) (by kernel_rfl) (by kernel_rfl) (fun _ _ _ h => h) (Or.inl ⟨by rfl, fun W hW => by have h0 := hW; go_simp⟩) hS ?_
  refine wpAnyH_take (i := 8) (v := .int .i64 (g : Nat)) rfl (by kernel_rfl) (by kernel_rfl) (by kernel_rfl) (fun _ _ _ h => h) (Or.inl ⟨by rfl, fun W hW => by have h0 := hW; go_simp⟩) hS ?_
  refine wpAnyH_take (i := 9) (v := .int .i64 (old : Nat)) rfl (by kernel_rfl) (by kernel_rfl) (by kernel_rfl) (fun _ _ _ h => h) (Or.inl ⟨by rfl, fun W hW => by have h0 := hW; go_simp⟩) hS ?_
  refine wpAnyH_take (i := 10) (v := .int .i64 ((g - old : Nat) : Int)) rfl (by kernel_rfl) (by kernel_rfl) (by kernel_rfl) (fun _ _ _ h => h) (Or.inl ⟨by rfl, fun W hW => by have h0 := hW; go_simp⟩) hS ?_
  refine wpAnyH_take (i := 11) (v := .slice B1 (m - (g - old)) (d - (g - old))) rfl (by kernel_rfl) (by kernel_rfl) (by kernel_rfl) (fun _ _ _ h => h) (Or.inl ⟨by rfl, fun W hW => by have h0 := hW; go_simp⟩) hS ?_
  refine wpAnyH_ready (rs := [4]) (by kernel_rfl) (by simp) ?_
  refine AllReadyH.cons rfl (fun K hK => ?_) AllReadyH.nil
  go_simp
  refine hK.out _ _ hS (fun hS => ?_)
  clear hK K
  refine wpAnyH_ready (rs := [6]) (by kernel_rfl) (by simp) ?_
  refine AllReadyH.cons rfl (fun K hK => ?_) AllReadyH.nil
  go_simp
  refine hK.out _ _ hS (fun hS => ?_)
  clear hK K
  refine wpAnyH_ready (rs := [12]) (by kernel_rfl) (by simp) ?_
  refine AllReadyH.cons rfl (fun K hK => ?_) AllReadyH.nil
  clear hA2 hB2
  obtain ⟨A', c', w1, hrun, hr1, hk1, hin1⟩ := HAPP.out
  have T1 : Blk w1 bp 161 #[.slice A n c, .int .i64 (most : Nat), .int .i64 gone] := (hk1.block bp (by exact HTOP.out.lt) (fun h => HAP.out (HIN.out _ h))).trans HTOP.out
  obtain ⟨d0, d1, d2, k0, k1, k2⟩ := blk3 T1
  have HT1 := Lib.hid T1
  have HR1 := Lib.hid hr1
  have HK1 := Lib.hid hk1
  have HIN1 := Lib.hid hin1
  refine step_append_run rfl (.tmp 34) (.tmp 39) 52 (by rfl) _ _ _ (by rfl) (by rfl) hrun ?_
  have HD1 := Lib.hid (fun u => show (w1.setCell ⟨bp, 0, none⟩ u).cell? ⟨bp, 1, none⟩ = some (.int .i64 (most : Nat)) from (T1.set_ 0 u).cell 1)
  refine hK.out _ _ d1 (fun hS => ?_)
  clear hK K c0 c1 c2 f0 f1 f2 hrun T1 hr1 hk1 hin1 HAPP
  refine wpAnyH_take (i := 13) (v := .pointer (some ⟨bp, 0, none⟩)) rfl (by kernel_rfl) (by kernel_rfl) (by kernel_rfl) (fun _ _ _ h => h) (Or.inl ⟨by rfl, fun W hW => by have h0 := hW; go_simp⟩) hS ?_
  refine wpAnyH_take (i := 14) (v := .pointer (some ⟨bp, 0, none⟩)) rfl (by kernel_rfl) (by kernel_rfl) (by kernel_rfl) (fun _ _ _ h => h) (Or.inl ⟨by rfl, fun W hW => by have h0 := hW; go_simp⟩) hS ?_
  refine wpAnyH_ready (rs := [15]) (by kernel_rfl) (by simp) ?_
  refine AllReadyH.cons rfl (fun K hK => ?_) AllReadyH.nil
  go_simp
  refine hK.out _ _ (HD1.out _) (fun hS => ?_)
  refine wpAnyH_done (by kernel_rfl) ?_ _
  clear hS
  go_wp2
  go_ret
  have hbw : bp < w.heap.size := HTOP.out.lt
  have hnb : ¬ InB A' bp := fun h => by
    rcases HIN1.out bp h with h | h
    · exact HAP.out (HIN.out bp h)
    · have h2 : w.heap.size ≤ bp := h
      omega
  have hr2 := HR1.out
  rw [HPL.out, HLEN.out] at hr2
  rw [HLEN.out]
  refine ⟨rfl, A', c', ⟨((HT1.out.set_ 0 _).set_ 2 _ : Blk _ _ _ _), (hr2.set_ (p := ⟨bp, 0, none⟩) hnb _).set_ (p := ⟨bp, 2, none⟩) hnb _, HFIT.out, hm1, hm2, hnb⟩, ?_, fun j hj => ?_⟩
  · have hk : Kept (bufF bp A) w w1 := ((Kept.refl (bufF bp A) w).drew.drew).trans HK1.out (fun j hj => .inl (.inr (HIN.out j hj)))
    exact (hk.set_ (p := ⟨bp, 0, none⟩) (.inl (.inl rfl)) _).set_ (p := ⟨bp, 2, none⟩) (.inl (.inl rfl)) _
  · rcases HIN1.out j hj with h | h
    · exact .inl (HIN.out j h)
    · exact .inr h
end
end Go.Proofs.Ytgcbcdbfeaepkaa
