/- A payload's parts: the function that pack.Read is given. -/
import Derived.Test.YtdhiofbimebbkaaDoorPf
import Derived.Test.YtdhiofbimebbkaaDoorJa
import Derived.StillTailTactics
namespace Go.Proofs.YtdhiofbimebbkaaDoor
open Go.RowKit

/-- What parts has in memory: the payload's slice, the key, the data, ok. -/
structure PsAt (w : World) (pb kp db ob : Nat) (b o m c : Nat) (x y z : Value) : Prop where
  p : Blk w pb 30 #[.slice (some ⟨b, o, none⟩) m c]
  k : Blk w kp 2 #[x]
  d : Blk w db 30 #[y]
  ok : Blk w ob 4 #[z]
theorem PsAt.kept {w w' : World} {pb kp db ob b o m c : Nat} {x y z : Value} {X : Nat → Prop} (h : PsAt w pb kp db ob b o m c x y z) (hk : Kept X w w') (h1 : ¬ X pb) (h2 : ¬ X kp) (h3 : ¬ X db) (h4 : ¬ X ob) : PsAt w' pb kp db ob b o m c x y z :=
  ⟨h.p.kept hk h1, h.k.kept hk h2, h.d.kept hk h3, h.ok.kept hk h4⟩
def PsA (rp pb kp db ob : Nat) : Prop := rp ≠ pb ∧ rp ≠ kp ∧ rp ≠ db ∧ rp ≠ ob ∧ pb ≠ kp ∧ pb ≠ db ∧ pb ≠ ob ∧ kp ≠ db ∧ kp ≠ ob ∧ db ≠ ob
def PsY (kp db ob j : Nat) : Prop := j = kp ∨ j = db ∨ j = ob
/-- The data's slice. -/
def dV (b o m c k : Nat) : Value := .slice (if c = k then some ⟨b, o, none⟩ else some ⟨b, o + k, none⟩) (m - k) (c - k)
def PartPost (w : World) (rp pb kp db ob b o m c n k : Nat) (X : Nat → Prop) (rest : List UInt8) (e : Ending) (w' : World) : Prop :=
  e = .returned (.tuple #[]) ∧ RdAt w' rp X rest false ∧ PsAt w' pb kp db ob b o m c (.int .i64 (n : Nat)) (dV b o m c k) (.bool true) ∧ Kept (fun j => j = rp ∨ PsY kp db ob j) w w'
set_option maxHeartbeats 2000000 in
set_option maxRecDepth 100000 in
theorem parts1_yes {w : World} {rp pb kp db ob b o m c n k : Nat} {X : Nat → Prop} {bs : List UInt8} {x y z : Value} (h : RdAt w rp X bs false) (hp : PsAt w pb kp db ob b o m c x y z) (ha : PsA rp pb kp db ob) (hX : ¬ X kp ∧ ¬ X db ∧ ¬ X ob) (hl : bs.length = m) (hmc : m ≤ c) (hcm : c ≤ maxLen)
    (hg : getL bs = (n, k)) (hk : 0 < k) (hn : n ≤ 1099511627776) (hd : m - k ≤ 536870912) :
    Calls Tryd.prog 55 #[.pointer (some ⟨rp, 0, none⟩), .pointer (some ⟨pb, 0, none⟩), .pointer (some ⟨kp, 0, none⟩), .pointer (some ⟨db, 0, none⟩), .pointer (some ⟨ob, 0, none⟩)] w (PartPost w rp pb kp db ob b o m c n k X (bs.drop k)) := by
  have mixed : Tryd.prog.follows .mixedOrders = true := by kernel_rfl
  obtain ⟨a1, a2, a3, a4, a5, a6, a7, a8, a9, a10⟩ := ha
  have hkm : k ≤ m := by
    rcases getL_bd bs with h0 | h0
    · rw [hg] at h0; injection h0 with _ h0; omega
    · rw [hg] at h0; have := h0.2.2.1; simp only at this; omega
  have C1 := Lib.hid (rdNum_yes h hg hk)
  have HP := Lib.hid hp
  have hnI : (n : Int) ≤ 1099511627776 := by omega
  obtain ⟨q, hq⟩ : ∃ q, q = (bs.drop k).length := ⟨_, rfl⟩
  have hqm : q = m - k := by rw [hq, List.length_drop, hl]
  have hqI : (q : Int) ≤ 536870912 := by omega
  have HQ := Lib.hid hq
  have HQM := Lib.hid hqm
  unfold maxLen at hcm
  clear h hp hq hg hl hqm
  go_enter Tryd.func55, Tryd.ntmps55
  go_wp2_with fail
  refine C1.out.mono ?_
  rintro e w1 ⟨rfl, hr1, k1⟩
  have HP1 := Lib.hid (HP.out.kept k1 (fun e => a1 e.symm) (fun e => a2 e.symm) (fun e => a3 e.symm) (fun e => a4 e.symm))
  have CL := Lib.hid (left_any hr1)
  rw [← HQ.out] at CL
  obtain ⟨A, m1, c1, hb1, hby1, hmc1, hml1, hap1⟩ := hr1.ex
  have CN := Lib.hid (need_yes hb1)
  have HR1 := Lib.hid hr1
  have K1 := Lib.hid k1
  have HBY := Lib.hid (show ∀ W, Kept (· = rp) w1 W → Blk W rp 101 #[.slice A m1 c1, .bool true, .bool false] → RdAt W rp X (bs.drop k) false from fun W hk hb => ⟨⟨A, m1, c1, hb, hby1.keep (fun _ b' o' e hlt => hk.block b' hlt (fun e2 => hr1.nx (by rw [← e2]; exact hap1 b' o' e))) hk.size, hmc1, hml1, hap1⟩, hr1.nx⟩)
  clear C1 hr1 k1 hb1 hby1 hmc1 hml1 hap1
  go_wp2_with fail
  refine CL.out.mono ?_
  rintro e w2 ⟨rfl, rfl⟩
  go_wp2_with fail
  refine CN.out.mono ?_
  rintro e w2 ⟨rfl, hb2, k2⟩
  have HR2 := Lib.hid (HBY.out w2 k2 hb2)
  have HP2 := Lib.hid (HP1.out.kept k2 (fun e => a1 e.symm) (fun e => a2 e.symm) (fun e => a3 e.symm) (fun e => a4 e.symm))
  have K2 := Lib.hid (K1.out.trans k2 (fun j hj => .inl hj))
  have CL2 := Lib.hid (left_any (HR2.out.keep (w' := w2.drew) rfl (fun _ _ _ => rfl) (Nat.le_refl _)))
  rw [← HQ.out] at CL2
  have p0 : w2.cell? ⟨pb, 0, none⟩ = some (.slice (some ⟨b, o, none⟩) m c) := HP2.out.p.cell 0
  have q0 : w2.cell? ⟨kp, 0, none⟩ = some x := HP2.out.k.cell 0
  have q1 : w2.frozen? ⟨kp, 0, none⟩ = false := HP2.out.k.frozen 0
  have q2 : w2.cell? ⟨db, 0, none⟩ = some y := HP2.out.d.cell 0
  have q3 : w2.frozen? ⟨db, 0, none⟩ = false := HP2.out.d.frozen 0
  have q4 : w2.cell? ⟨ob, 0, none⟩ = some z := HP2.out.ok.cell 0
  have q5 : w2.frozen? ⟨ob, 0, none⟩ = false := HP2.out.ok.frozen 0
  have w0 : IntKind.i64.wrap ((m : Int) - (q : Int)) = (k : Int) := by have := HQM.out; rw [IntKind.wrap_i64]; omega
  have kI0 : (0 : Int) ≤ (k : Int) := by omega
  have kI1 : (k : Int) ≤ (m : Int) := by omega
  clear CL CN hb2 k2 HBY HR1 K1 HP1
  go_wp2_with fail
  refine wp_region_held_drew (S := fun W => W.cell? ⟨pb, 0, none⟩ = some (.slice (some ⟨b, o, none⟩) m c)) mixed p0 (fun hS => ?_)
  refine wpAnyH_take (i := 0) (v := .int .i64 (n : Nat)) rfl (by kernel_rfl) (by kernel_rfl) (by kernel_rfl) (fun _ _ _ h => h) (Or.inl ⟨by rfl, fun W hW => by have h0 := hW; go_simp⟩) hS ?_
  refine wpAnyH_take (i := 1) (v := .slice (some ⟨b, o, none⟩) m c) rfl (by kernel_rfl) (by kernel_rfl) (by kernel_rfl) (fun _ _ _ h => h) (Or.inl ⟨by rfl, fun W hW => by have h0 := hW; go_simp⟩) hS ?_
  refine wpAnyH_take (i := 2) (v := .slice (some ⟨b, o, none⟩) m c) rfl (by kernel_rfl) (by kernel_rfl) (by kernel_rfl) (fun _ _ _ h => h) (Or.inl ⟨by rfl, fun W hW => by have h0 := hW; go_simp⟩) hS ?_
  refine wpAnyH_take (i := 3) (v := .int .i64 (m : Nat)) rfl (by kernel_rfl) (by kernel_rfl) (by kernel_rfl) (fun _ _ _ h => h) (Or.inl ⟨by rfl, fun W hW => by have h0 := hW; go_simp⟩) hS ?_
  refine wpAnyH_take (i := 4) (v := .pointer (some ⟨rp, 0, none⟩)) rfl (by kernel_rfl) (by kernel_rfl) (by kernel_rfl) (fun _ _ _ h => h) (Or.inl ⟨by rfl, fun W hW => by have h0 := hW; go_simp⟩) hS ?_
  refine wpAnyH_ready (rs := [5]) (by kernel_rfl) (by simp) ?_
  refine AllReadyH.cons rfl (fun K hK => ?_) AllReadyH.nil
  go_simp
  (with_reducible refine CL2.out.mono ?_)
  rintro e w3 ⟨rfl, rfl⟩
  refine hK.out _ _ p0 (fun hS => ?_)
  clear hK K
  refine wpAnyH_take (i := 6) (v := .int .i64 (k : Nat)) rfl (by kernel_rfl) (by kernel_rfl) (by kernel_rfl) (fun _ _ _ h => h) (Or.inl ⟨by rfl, fun W hW => by have h0 := hW; go_simp⟩) hS ?_
  obtain ⟨D, hD⟩ : ∃ D, dV b o m c k = .slice D (m - k) (c - k) := ⟨_, rfl⟩
  have HD := Lib.hid hD
  clear hD
  refine wpAnyH_take (i := 7) (v := .slice D (m - k) (c - k)) rfl (by kernel_rfl) (by kernel_rfl) (by kernel_rfl) (fun _ _ _ h => h) (Or.inl ⟨by rfl, fun W hW => by go_simp; have e := HD.out; unfold dV at e; injection e⟩) hS ?_
  have far : ∀ (W : World) (p : Addr) (v : Value), p.block ≠ pb → W.cell? ⟨pb, 0, none⟩ = some (.slice (some ⟨b, o, none⟩) m c) → (W.setCell p v).cell? ⟨pb, 0, none⟩ = some (.slice (some ⟨b, o, none⟩) m c) := fun W p v hne h => (World.cell?_of_block (a := ⟨pb, 0, none⟩) (Below.heap_setCell W p v pb hne.symm)).trans h
  have B1k := HP2.out.k.set_ 0 (.int .i64 (n : Nat))
  have B1d := HP2.out.d.far (p := ⟨kp, 0, none⟩) a8.symm (.int .i64 (n : Nat))
  have B1o := HP2.out.ok.far (p := ⟨kp, 0, none⟩) a9.symm (.int .i64 (n : Nat))
  have B1p := HP2.out.p.far (p := ⟨kp, 0, none⟩) a5 (.int .i64 (n : Nat))
  have q6 := B1d.cell 0
  have q7 := B1d.frozen 0
  have B2k := B1k.far (p := ⟨db, 0, none⟩) a8 ((.slice D (m - k) (c - k)))
  have B2d := B1d.set_ 0 ((.slice D (m - k) (c - k)))
  have B2o := B1o.far (p := ⟨db, 0, none⟩) a10.symm ((.slice D (m - k) (c - k)))
  have B2p := B1p.far (p := ⟨db, 0, none⟩) a6 ((.slice D (m - k) (c - k)))
  have q8 := B2o.cell 0
  have q9 := B2o.frozen 0
  have B3 := Lib.hid (show PsAt _ pb kp db ob b o m c (.int .i64 (n : Nat)) ((.slice D (m - k) (c - k))) (.bool true) from ⟨B2p.far (p := ⟨ob, 0, none⟩) a7 (.bool true), B2k.far (p := ⟨ob, 0, none⟩) a9 (.bool true), B2d.far (p := ⟨ob, 0, none⟩) a10 (.bool true), B2o.set_ 0 (.bool true)⟩)
  have R3 := Lib.hid (((HR2.out.set_ (p := ⟨kp, 0, none⟩) a2.symm hX.1 (.int .i64 (n : Nat))).set_ (p := ⟨db, 0, none⟩) a3.symm hX.2.1 ((.slice D (m - k) (c - k)))).set_ (p := ⟨ob, 0, none⟩) a4.symm hX.2.2 (.bool true))
  have K3 := Lib.hid ((((K2.out.mono (Y := fun j => j = rp ∨ PsY kp db ob j) fun _ _ h => .inl h).set_ (p := ⟨kp, 0, none⟩) (.inl (.inr (.inl rfl))) (.int .i64 (n : Nat))).set_ (p := ⟨db, 0, none⟩) (.inl (.inr (.inr (.inl rfl)))) ((.slice D (m - k) (c - k)))).set_ (p := ⟨ob, 0, none⟩) (.inl (.inr (.inr (.inr rfl)))) (.bool true))
  clear B1k B1d B1o B1p B2k B2d B2o B2p
  refine wpAnyH_ready (rs := [8]) (by kernel_rfl) (by simp) ?_
  refine AllReadyH.cons rfl (fun K hK => ?_) AllReadyH.nil
  go_simp
  refine hK.out _ _ (far _ ⟨kp, 0, none⟩ (.int .i64 (n : Nat)) a5.symm hS) (fun hS => ?_)
  clear hK K
  refine wpAnyH_ready (rs := [9]) (by kernel_rfl) (by simp) ?_
  refine AllReadyH.cons rfl (fun K hK => ?_) AllReadyH.nil
  go_simp
  refine hK.out _ _ (far _ ⟨db, 0, none⟩ ((.slice D (m - k) (c - k))) a6.symm hS) (fun hS => ?_)
  clear hK K
  refine wpAnyH_ready (rs := [10]) (by kernel_rfl) (by simp) ?_
  refine AllReadyH.cons rfl (fun K hK => ?_) AllReadyH.nil
  go_simp
  refine hK.out _ _ (far _ ⟨ob, 0, none⟩ (.bool true) a7.symm hS) (fun hS => ?_)
  clear hK K
  refine wpAnyH_done (by kernel_rfl) ?_ _
  go_wp2
  go_end0
  unfold PartPost
  rw [show dV b o m c k = .slice D (m - k) (c - k) from HD.out]
  exact ⟨rfl, R3.out.keep rfl (fun _ _ _ => rfl) (Nat.le_refl _), ⟨B3.out.p, B3.out.k, B3.out.d, B3.out.ok⟩, K3.out.drew⟩
end Go.Proofs.YtdhiofbimebbkaaDoor
