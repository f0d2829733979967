/- A journal in memory; Size, Has, Get, Keys, Sync. -/
import Derived.Test.YtdhiofbimebbkaaDoorVo
import Derived.Test.YtdhiofbimebbkaaDoorJa
import Derived.Test.YtdhiofbimebbkaaDoorSfj
import Derived.Test.YtdhiofbimebbkaaDoorIti
import Derived.StillTailTactics
namespace Go.Proofs.YtdhiofbimebbkaaDoor
open Go.RowKit Go.Maps

def heldR (v : Value) : Option (DataW Value × List MemPlace) := some (.held v, [])
/-- What a journal holds: a key, its data, the slice of them. -/
structure Ent where
  key : Nat
  data : List UInt8
  b : Nat
  o : Nat
  cap : Nat
def Ent.v (e : Ent) : Value := .slice (some ⟨e.b, e.o, none⟩) e.data.length e.cap
def Ent.itm (e : Ent) : Itm := (e.key, e.data)
def itms (L : List Ent) : List Itm := L.map Ent.itm
def jF (D : DataW Value) (L : List Ent) : DataW Value := L.foldl (fun D e => D.put (.int .i64 (e.key : Nat)) (.held e.v)) D
def jD (L : List Ent) : DataW Value := jF (.map []) L
def hasE (L : List Ent) (k : Int) : Bool := L.any fun e => ((e.key : Nat) : Int) == k
theorem jD_snoc (L : List Ent) (e : Ent) : jD (L ++ [e]) = (jD L).put (.int .i64 (e.key : Nat)) (.held e.v) := by
  unfold jD jF; rw [List.foldl_append]; rfl
theorem jF_isMap : ∀ (L : List Ent) (D : DataW Value), IsMap D → IsMap (jF D L)
  | [], _, h => h
  | e :: r, D, h => jF_isMap r _ (h.put _ _)
theorem lit_ne {a b : Int} (h : a ≠ b) : Lit.int .i64 a ≠ Lit.int .i64 b := fun e => by injection e with _ e; exact h e
theorem jF_has : ∀ (L : List Ent) (D : DataW Value), IsMap D → ∀ k : Int, Maps.has (jF D L) (.int .i64 k) = (Maps.has D (.int .i64 k) || hasE L k)
  | [], D, _, k => by simp [jF, hasE]
  | e :: r, D, h, k => by
    show Maps.has (jF (D.put (.int .i64 (e.key : Nat)) (.held e.v)) r) (.int .i64 k) = _
    rw [jF_has r _ (h.put _ _)]
    show _ = (Maps.has D (.int .i64 k) || (((e.key : Nat) : Int) == k || hasE r k))
    by_cases hk : ((e.key : Nat) : Int) = k
    · subst hk
      rw [has_put_same h (show WideAt.IsKeyLit (Lit.int .i64 _) from trivial)]; simp
    · rw [has_put_other (fun e' => lit_ne hk e'.symm)]
      have : (((e.key : Nat) : Int) == k) = false := by rw [beq_eq_false_iff_ne]; exact hk
      rw [this]; simp
theorem jD_has (L : List Ent) (k : Int) : Maps.has (jD L) (.int .i64 k) = hasE L k := by
  have := jF_has L (.map []) isMap_empty k
  unfold jD; rw [this]; simp [Maps.has]
theorem jF_far : ∀ (L : List Ent) (D : DataW Value) (k : Int) (z : DataW Value), hasE L k = false → (jF D L).atKey (.int .i64 k) z = D.atKey (.int .i64 k) z
  | [], _, _, _, _ => rfl
  | e :: r, D, k, z, h => by
    have h2 : (((e.key : Nat) : Int) == k) = false ∧ hasE r k = false := by simpa [hasE] using h
    show (jF (D.put (.int .i64 (e.key : Nat)) (.held e.v)) r).atKey (.int .i64 k) z = _
    rw [jF_far r _ k z h2.2, atKey_put_other (fun e' => lit_ne (by have := h2.1; rw [beq_eq_false_iff_ne] at this; exact this) e'.symm)]
/-- No key twice. -/
def Once (L : List Ent) : Prop := L.Pairwise fun e f => e.key ≠ f.key
theorem jF_at : ∀ (L : List Ent) (D : DataW Value), IsMap D → Once L → ∀ e ∈ L, ∀ z, (jF D L).atKey (.int .i64 (e.key : Nat)) z = .held e.v
  | [], _, _, _, e, he, _ => by cases he
  | x :: r, D, hm, ho, e, he, z => by
    have h1 := List.pairwise_cons.1 ho
    show (jF (D.put (.int .i64 (x.key : Nat)) (.held x.v)) r).atKey (.int .i64 (e.key : Nat)) z = _
    rcases List.mem_cons.1 he with rfl | he
    · rw [jF_far r _ _ z (by
        unfold hasE; rw [List.any_eq_false]; intro f hf
        have := h1.1 f hf
        rw [beq_iff_eq]; omega), atKey_put_same hm (show WideAt.IsKeyLit (Lit.int .i64 _) from trivial)]
    · exact jF_at r _ (hm.put _ _) h1.2 e he z
theorem jD_at {L : List Ent} (ho : Once L) {e : Ent} (he : e ∈ L) (z : DataW Value) : (jD L).atKey (.int .i64 (e.key : Nat)) z = .held e.v := jF_at L _ isMap_empty ho e he z
/-- The journal that lies at jp, its map at jm; Y: its blocks. -/
structure JAt (w : World) (jp jm dp : Nat) (nm : ByteArray) (Y : Nat → Prop) (L : List Ent) : Prop where
  top : Blk w jp 54 #[.pointer (some ⟨dp, 0, none⟩), .string nm, .map (some jm), .int .i64 ((fileL (itms L)).length : Nat)]
  mp : w.ownsMap Tryd.prog 2 heldR jm L.length (jD L)
  yj : Y jp
  ym : Y jm
  data : ∀ e ∈ L, BytesAt w (some ⟨e.b, e.o, none⟩) e.data.length e.data ∧ e.data.length ≤ e.cap ∧ Y e.b ∧ e.b ≠ jp ∧ e.b ≠ jm
  once : Once L
  lt : ∀ j, Y j → j < w.heap.size
section
variable {w w' : World} {jp jm dp : Nat} {nm : ByteArray} {Y : Nat → Prop} {L : List Ent}
theorem JAt.keep (h : JAt w jp jm dp nm Y L) (hk : ∀ j, Y j → w'.heap[j]? = w.heap[j]?) (hs : w.heap.size ≤ w'.heap.size) : JAt w' jp jm dp nm Y L where
  top := (hk _ h.yj).trans h.top
  mp := by
    obtain ⟨es, clock, hb, F, hs, hD⟩ := h.mp
    exact ⟨es, clock, (hk jm h.ym).trans hb, F, hs, hD⟩
  yj := h.yj
  ym := h.ym
  data := fun e he => ⟨(h.data e he).1.keep (fun _ b o e2 _ => hk b (by injection e2 with e2; injection e2 with e2 _ _; rw [← e2]; exact (h.data e he).2.2.1)) hs, (h.data e he).2⟩
  once := h.once
  lt := fun j hj => Nat.lt_of_lt_of_le (h.lt j hj) hs
theorem JAt.below (h : JAt w jp jm dp nm Y L) (hb : Below w.heap.size w w') : JAt w' jp jm dp nm Y L := h.keep (fun j hj => hb.block j (h.lt j hj)) hb.size
theorem JAt.kept (h : JAt w jp jm dp nm Y L) {X : Nat → Prop} (hk : Kept X w w') (hx : ∀ j, Y j → ¬ X j) : JAt w' jp jm dp nm Y L := h.keep (fun j hj => hk.block j (h.lt j hj) (hx j hj)) hk.size
theorem size_any (h : JAt w jp jm dp nm Y L) : Calls Tryd.prog 17 #[.pointer (some ⟨jp, 0, none⟩)] w fun e w' => e = .returned (.int .i64 ((fileL (itms L)).length : Nat)) ∧ w = w' := by
  obtain ⟨c0, c1, c2, c3, f1, f2, f3⟩ := blk4 h.top
  generalize (fileL (itms L)).length = n at *
  clear h
  go_enter Tryd.func17, Tryd.ntmps17
  go_wp2
  go_ret
  exact ⟨rfl, rfl⟩
theorem law_i64 : Keyed Tryd.prog 2 := int_keyed Tryd.underlying2
theorem zero_bs (w : World) : (zeroValue 30).run Tryd.prog w = .ok (.slice none 0 0) w := by kernel_rfl
theorem key_i64 {k : Int} (hk : (Lit.int .i64 k).wf = true) : keyOf Tryd.prog 2 (.int .i64 k) = some (.int .i64 k) := keyOf_int_mk Tryd.underlying2 hk
/-- The look-up of a key, as the walk takes it. -/
theorem JAt.look (h : JAt w jp jm dp nm Y L) {k : Int} (hk : (Lit.int .i64 k).wf = true) : ∃ v, (Instr.lookup 52 (.map (some jm)) (.int .i64 k) true).run Tryd.prog w = .ok (.tuple #[v, .bool (hasE L k)]) w ∧ (jD L).atKey (.int .i64 k) (.held (.slice none 0 0)) = .held v := by
  obtain ⟨v, ps, hrun, hv⟩ := h.mp.look_ok law_i64 Tryd.underlying52 (zero_bs w) (zd := .held (.slice none 0 0)) (zp := []) rfl (key_i64 hk)
  rw [jD_has] at hrun
  refine ⟨v, hrun, ?_⟩
  simp only [heldR, Option.some.injEq, Prod.mk.injEq] at hv
  exact hv.1.symm
theorem has_any (h : JAt w jp jm dp nm Y L) {k : Int} (hk : (Lit.int .i64 k).wf = true) : Calls Tryd.prog 18 #[.pointer (some ⟨jp, 0, none⟩), .int .i64 k] w fun e w' => e = .returned (.bool (hasE L k)) ∧ w = w' := by
  obtain ⟨c0, c1, c2, c3, f1, f2, f3⟩ := blk4 h.top
  obtain ⟨v, hrun, _⟩ := h.look hk
  generalize hasE L k = q at *
  clear h c0 c1 c3 f1 f2 f3 hk
  go_enter Tryd.func18, Tryd.ntmps18
  go_wp2
  go_ret
  exact ⟨rfl, rfl⟩
def GetPost (w : World) (r : Option (List UInt8)) (e : Ending) (w' : World) : Prop := match r with
  | none => ∃ v, e = .returned (.tuple #[v, .bool false]) ∧ Below w.heap.size w w'
  | some bs => ∃ A c, e = .returned (.tuple #[.slice A bs.length c, .bool true]) ∧ BytesAt w' A bs.length bs ∧ Below w.heap.size w w' ∧ ∀ b o, A = some ⟨b, o, none⟩ → w.heap.size ≤ b
theorem get_no (h : JAt w jp jm dp nm Y L) {k : Int} (hk : (Lit.int .i64 k).wf = true) (hh : hasE L k = false) : Calls Tryd.prog 13 #[.pointer (some ⟨jp, 0, none⟩), .int .i64 k] w (GetPost w none) := by
  obtain ⟨c0, c1, c2, c3, f1, f2, f3⟩ := blk4 h.top
  obtain ⟨v, hrun, hat⟩ := h.look hk
  rw [hh] at hrun
  have h1 : (jD L).atKey (.int .i64 k) (.held (.slice none 0 0)) = .held (.slice none 0 0) := by
    unfold jD; rw [jF_far L _ k _ hh]; rfl
  rw [h1] at hat
  injection hat with hat
  subst hat
  have HC := Lib.hid (clone_any (w := w) (v := .slice none 0 0) (xs := []) ⟨rfl, .inl ⟨rfl, rfl⟩⟩ (by decide))
  clear h c0 c1 c3 f1 f2 f3 hk hh h1
  go_enter Tryd.func13, Tryd.ntmps13
  go_wp2_with fail
  refine HC.out.mono ?_
  rintro e w' ⟨v', rfl, _, hb⟩
  go_wp2
  go_ret2
  exact ⟨_, rfl, hb⟩
theorem get_yes (h : JAt w jp jm dp nm Y L) {e : Ent} (he : e ∈ L) (hk : e.key ≤ 1099511627776) (hl : e.data.length ≤ 1000000000) : Calls Tryd.prog 13 #[.pointer (some ⟨jp, 0, none⟩), .int .i64 (e.key : Nat)] w (GetPost w (some e.data)) := by
  obtain ⟨c0, c1, c2, c3, f1, f2, f3⟩ := blk4 h.top
  have hwf : (Lit.int .i64 ((e.key : Nat) : Int)).wf = true := by simp [Lit.wf, IntKind.min, IntKind.max, IntKind.signed, IntKind.bits]; omega
  obtain ⟨v, hrun, hat⟩ := h.look hwf
  have hh : hasE L (e.key : Nat) = true := by unfold hasE; rw [List.any_eq_true]; exact ⟨e, he, by simp⟩
  rw [hh] at hrun
  rw [jD_at h.once he] at hat
  injection hat with hat
  subst hat
  rw [show e.v = .slice (some ⟨e.b, e.o, none⟩) e.data.length e.cap from rfl] at hrun
  have HC := Lib.hid (clone_at (c := e.cap) (h.data e he).1 hl)
  obtain ⟨n, hn⟩ : ∃ n, n = e.data.length := ⟨_, rfl⟩
  rw [← hn] at hrun HC
  have HN := Lib.hid hn
  clear h c0 c1 c3 f1 f2 f3 hk hh hn hl hwf
  go_enter Tryd.func13, Tryd.ntmps13
  go_wp2_with fail
  refine HC.out.mono ?_
  rintro e2 w' ⟨v', rfl, hr, hb⟩
  obtain ⟨A, c, rfl, hby, hlow⟩ := row_bytes hr
  have HB := Lib.hid hb
  have HY := Lib.hid hby
  have HW := Lib.hid hlow
  rw [← HN.out]
  rw [← HN.out] at HY
  clear hr hb hby hlow HC
  go_wp2
  go_ret2
  exact ⟨A, c, by rw [HN.out]; rfl, by rw [← HN.out]; exact HY.out, HB.out, HW.out⟩
theorem jD_size (h : JAt w jp jm dp nm Y L) : Maps.size (jD L) ≤ L.length := h.mp.size_le
def keyL (L : List Ent) : List Int := (L.map fun e => ((e.key : Nat) : Int)).mergeSort fun x y => decide (x ≤ y)
theorem jD_keys (h : JAt w jp jm dp nm Y L) : (L.map fun e => ((e.key : Nat) : Int)).Perm (intKeys (jD L)) := by
  obtain ⟨es, he, hp⟩ := h.mp.tidy law_i64
  rw [he]
  refine perm_intKeys hp (fun p hp2 => ?_) ?_ fun x => ?_
  · obtain ⟨es2, clock, hb, F, hs, hD⟩ := h.mp
    rw [he] at hD
    injection hD with hD
    have hk := (keys_perm (WideShapes.sorted_perm _).symm (fit_keys F)) p (by rw [hD] at hp2; exact hp2)
    obtain ⟨v, hv⟩ := hk
    obtain ⟨x, _, h2, _⟩ := Maps.keyOf_i64 Tryd.underlying2 hv
    exact ⟨x, h2⟩
  · refine List.pairwise_map.2 (h.once.imp fun {a b} hne e => hne (by omega))
  · rw [← he, jD_has]
    unfold hasE
    rw [List.any_eq_true, List.mem_map]
    simp only [beq_iff_eq]
def KeysPost (w : World) (zs : List Int) (e : Ending) (w' : World) : Prop := ∃ v, e = .returned v ∧ w'.ownsRow w.heap.size 2 1 v zs.length (zs.map encZ) ∧ Below w.heap.size w w'
theorem keys_all (h : JAt w jp jm dp nm Y L) (hl : L.length ≤ 1000000) : Calls Tryd.prog 12 #[.pointer (some ⟨jp, 0, none⟩)] w (KeysPost w (keyL L)) := by
  obtain ⟨c0, c1, c2, c3, f1, f2, f3⟩ := blk4 h.top
  have h1 := jD_size h
  have HP := Lib.hid (jD_keys h)
  have CK := Lib.hid (keysI_any (some jm) w)
  have CS := Lib.hid (sortedI_any jm L.length (jD L) heldR w h.mp (by unfold maxLen; omega) (by omega))
  clear h c0 c1 c3 f1 f2 f3 h1
  go_enter Tryd.func12, Tryd.ntmps12
  go_wp2_with fail
  refine CK.out.mono ?_
  rintro e w1 ⟨rfl, rfl⟩
  go_wp2_with fail
  refine CS.out.mono ?_
  rintro e w2 ⟨v, ss, rfl, hp, hr, _, hb⟩
  have hk : ss.mergeSort (fun x y => decide (x ≤ y)) = keyL L := mergeSort_of_perm_i (hp.trans HP.out.symm)
  have HR := Lib.hid (show w2.ownsRow w.heap.size 2 1 v (keyL L).length ((keyL L).map encZ) by
    rw [← hk]
    refine row_base (by rw [List.length_mergeSort]; exact hr) (by simp))
  have HB := Lib.hid (((Below.refl w.heap.size w).alloc (Nat.le_refl _) (.cells #[.map (some jm)] 52)).trans (hb.mono (by simp)))
  clear hp hr hb hk
  go_wp2
  go_ret
  exact ⟨_, rfl, HR.out, HB.out⟩
set_option maxHeartbeats 1000000 in
set_option maxRecDepth 100000 in
theorem jsync_any (h : JAt w jp jm dp nm Y L) {X : Nat → Prop} {s : Sta} (hd : Disk w dp X s) (ok : Ok s) (hn : nm.size ≤ maxLen) : Calls Tryd.prog 10 #[.pointer (some ⟨jp, 0, none⟩)] w (Res w dp X (syncS nm.data.toList s)) := by
  obtain ⟨c0, c1, c2, c3, f1, f2, f3⟩ := blk4 h.top
  have CS := Lib.hid ((hd.keep (w' := w.drew) fun _ _ => rfl).sync ok nm hn)
  clear h c2 c3 f1 f2 f3
  go_enter Tryd.func10, Tryd.ntmps10
  go_wp2_with fail
  go_still_tail 8, (by kernel_rfl)
  change wpList _ _ _ _ _ w.drew
  go_wp2_with fail
  refine CS.out.mono ?_
  rintro e w' ⟨rfl, X', h1, h2, h3⟩
  go_wp2
  go_ret
  exact ⟨rfl, X', h1, h2, ⟨h3.os, h3.tape, h3.output, h3.size, h3.block⟩⟩
end
end Go.Proofs.YtdhiofbimebbkaaDoor
