/- load, Open. -/
import Derived.Test.YtdhiofbimebbkaaDoorJk
import Derived.Test.YtdhiofbimebbkaaDoorJl
namespace Go.Proofs.YtdhiofbimebbkaaDoor
open Go.RowKit Go.Maps
section
variable {w0 w w' w1 : World} {dp jp jm : Nat} {nm : ByteArray} {X Y : Nat → Prop} {s s' : Sta} {L : List Ent}
theorem jrow_below {w w' : World} {B : Nat} {e : TypeId} {v : Value} {n : Nat} {xs : List Value} (h : w.ownsRow B e 1 v n xs) (hb : Below w.heap.size w w') : w'.ownsRow B e 1 v n xs := by
  refine ⟨h.1, ?_⟩
  rcases h.2 with h0 | ⟨g, cap, cur, e, h1, h2, h3⟩
  · exact .inl h0
  · exact .inr ⟨g, cap, cur, e, h1, (hb.block g (Array.getElem?_eq_some_iff.1 h2).1).trans h2, h3⟩
def LoadPost (w0 w : World) (X : Nat → Prop) (dp : Nat) (r : Int × List UInt8 × Sta) (e : Ending) (w' : World) : Prop :=
  ∃ v X', e = .returned (.tuple #[v, .int .i64 r.1]) ∧ w'.ownsRow w0.heap.size 5 1 v r.2.1.length (r.2.1.map u8V) ∧ DB w0 w' dp X' r.2.2 ∧ (∀ b, v.ownBlock = some b → ¬ X' b) ∧ (∀ j, X' j → X j ∨ w.heap.size ≤ j) ∧ Kept X w w'
set_option maxHeartbeats 2000000 in
set_option maxRecDepth 100000 in
theorem load_any (h : DB w0 w dp X s) (ok : Ok s) (hn : nm.size ≤ maxLen) : Calls Tryd.prog 21 #[.pointer (some ⟨dp, 0, none⟩), .string nm] w (LoadPost w0 w X dp (loadS nm.data.toList s)) := by
  have CR := Lib.hid (h.disk.read ok nm hn)
  have H := Lib.hid h
  have HOK := Lib.hid ok
  obtain ⟨cd, hcd⟩ : ∃ cd, cd = (readS nm.data.toList s).1 := ⟨_, rfl⟩
  have hL : loadS nm.data.toList s = if cd = 4 then ((createS nm.data.toList s).1, [], (createS nm.data.toList s).2) else (cd, (readS nm.data.toList s).2, s) := by rw [hcd]; rfl
  rcases Int.decEq cd 4 with hc4 | hc4
  · rw [if_neg hc4] at hL
    have HLL := Lib.hid hL
    have HCD := Lib.hid hcd
    clear h ok hL hcd
    go_enter Tryd.func21, Tryd.ntmps21
    go_wp2_with fail
    refine CR.out.mono ?_
    rintro e w1 ⟨v, rfl, hr, hb⟩
    rw [← HCD.out]
    have HE := Lib.hid (show LoadPost w0 w X dp (loadS nm.data.toList s) (.returned (.tuple #[v, .int .i64 cd])) w1 from by
      rw [HLL.out]
      refine ⟨v, X, rfl, row_base hr H.out.old.size, H.out.below hb, fun b hb' hx => ?_, fun j hj => .inl hj, kept_below hb⟩
      have h1 := H.out.disk.lt hx
      rcases hr.2 with ⟨e, _⟩ | ⟨g, cap, cur, e, hB, _⟩
      · rw [e] at hb'; simp [Value.ownBlock] at hb'
      · rw [e] at hb'
        have : g = b := by simpa [Value.ownBlock] using hb'
        omega)
    clear hr hb
    go_wp2
    go_ret2
    exact HE.out
  · subst hc4
    rw [if_pos rfl] at hL
    have HLL := Lib.hid hL
    have HCD := Lib.hid hcd
    clear h ok hL hcd
    go_enter Tryd.func21, Tryd.ntmps21
    go_wp2_with fail
    refine CR.out.mono ?_
    rintro e w1 ⟨v, rfl, hr, hb⟩
    rw [← HCD.out]
    have h1 := H.out.below hb
    have CC := Lib.hid (h1.disk.create HOK.out nm hn)
    have H1 := Lib.hid h1
    have HBB := Lib.hid hb
    clear hr hb h1 CR
    go_wp2_with fail
    refine CC.out.mono ?_
    rintro e w2 ⟨rfl, ha⟩
    obtain ⟨X', h2, hg2, hk2⟩ := H1.out.after ha
    have hbs := HBB.out.size
    have hk3 : Kept X w w2 := (kept_below (X := X) HBB.out).trans hk2 (fun _ h => .inl h)
    have hg3 : ∀ j, X' j → X j ∨ w.heap.size ≤ j := fun j hj => by
      rcases hg2 j hj with h5 | h5
      · exact .inl h5
      · exact .inr (by omega)
    have HE := Lib.hid (show LoadPost w0 w X dp (loadS nm.data.toList s) (.returned (.tuple #[.slice none 0 0, .int .i64 (createS nm.data.toList s).1])) w2 from by
      rw [HLL.out]
      exact ⟨_, X', rfl, ⟨rfl, .inl ⟨rfl, rfl⟩⟩, h2, fun b hb' => by simp [Value.ownBlock] at hb', hg3, hk3⟩)
    obtain ⟨c2, hc2⟩ : ∃ c2, c2 = (createS nm.data.toList s).1 := ⟨_, rfl⟩
    rw [← hc2] at HE ⊢
    clear ha h2 hc2 CC hg2 hk2 hk3 hg3 hbs
    go_wp2
    go_ret2
    exact HE.out
/-- What Open answers. -/
def OpenPost (w0 : World) (dp : Nat) (nm : ByteArray) (r : Int × Sta × List Itm) (e : Ending) (w' : World) : Prop :=
  if r.1 = 0 then ∃ jp jm X Y L, e = .returned (.tuple #[.pointer (some ⟨jp, 0, none⟩), .int .i64 0]) ∧ JB w0 w' dp jp jm nm X Y r.2.1 L ∧ itms L = r.2.2
  else ∃ X, e = .returned (.tuple #[.pointer none, .int .i64 r.1]) ∧ DB w0 w' dp X r.2.1
theorem OpenPost.no {r : Int × Sta × List Itm} {c : Int} {st : Sta} {l : List Itm} (hr : r = (c, st, l)) (hc : c ≠ 0) (h : DB w0 w' dp X st) : OpenPost w0 dp nm r (.returned (.tuple #[.pointer none, .int .i64 c])) w' := by
  subst hr; unfold OpenPost; rw [if_neg hc]; exact ⟨X, rfl, h⟩
theorem OpenPost.yes {r : Int × Sta × List Itm} {st : Sta} {l : List Itm} (hr : r = (0, st, l)) (h : JB w0 w' dp jp jm nm X Y st L) (hl : itms L = l) : OpenPost w0 dp nm r (.returned (.tuple #[.pointer (some ⟨jp, 0, none⟩), .int .i64 0])) w' := by
  subst hr; unfold OpenPost; rw [if_pos rfl]; exact ⟨jp, jm, X, Y, L, rfl, h, hl⟩
def OpenK (w0 w : World) (X : Nat → Prop) (dp : Nat) (nm : ByteArray) (r : Int × Sta × List Itm) (e : Ending) (w' : World) : Prop := OpenPost w0 dp nm r e w' ∧ Kept X w w'
/-- A journal made anew. -/
def newW (w : World) (dp : Nat) (nm : ByteArray) : World := (w.alloc (.map #[] 0)).alloc (.cells #[.pointer (some ⟨dp, 0, none⟩), .string nm, .map (some w.heap.size), .int .i64 0] 54)
theorem jat_new (w : World) (dp : Nat) (nm : ByteArray) : JAt (newW w dp nm) (w.heap.size + 1) w.heap.size dp nm (fun j => j = w.heap.size + 1 ∨ j = w.heap.size) [] where
  top := by
    have h := Blk.new (w.alloc (.map #[] 0)) 54 #[.pointer (some ⟨dp, 0, none⟩), .string nm, .map (some w.heap.size), .int .i64 0]
    rw [World.size_alloc] at h
    exact h
  mp := (World.ownsMap_made w Tryd.prog 2 heldR).alloc _
  yj := .inl rfl
  ym := .inr rfl
  data := fun e he => by cases he
  once := List.Pairwise.nil
  lt := fun j hj => by rcases hj with rfl | rfl <;> simp [newW] <;> omega
theorem newW_below (w : World) (dp : Nat) (nm : ByteArray) : Below w.heap.size w (newW w dp nm) := ((Below.refl w.heap.size w).alloc (Nat.le_refl _) (.map #[] 0)).alloc (by simp) _
theorem taken_below {bs : List UInt8} {e : Ending} (ht : TakePost (newW w dp nm) (w.heap.size + 1) w.heap.size dp nm (fun j => j = w.heap.size + 1 ∨ j = w.heap.size) bs e w') : Below w.heap.size w w' := by
  obtain ⟨_, _, hk⟩ := ht
  have hsz : (newW w dp nm).heap.size = w.heap.size + 2 := by simp [newW]
  exact (newW_below w dp nm).trans (hk.below (by omega) fun j hj' => by rcases hj' with h1 | h1 <;> omega)
/-- Behind take. -/
theorem JB.taken {bs : List UInt8} {e : Ending} (h : DB w0 w dp X s) (ht : TakePost (newW w dp nm) (w.heap.size + 1) w.heap.size dp nm (fun j => j = w.heap.size + 1 ∨ j = w.heap.size) bs e w') :
    ∃ Y L, JB w0 w' dp (w.heap.size + 1) w.heap.size nm X Y s L ∧ itms L = scanL [] bs := by
  obtain ⟨_, ⟨L, Y', hj, hi, hg⟩, hk⟩ := ht
  have hsz : (newW w dp nm).heap.size = w.heap.size + 2 := by simp [newW]
  have hY : ∀ j, Y' j → w.heap.size ≤ j := fun j hj' => by
    rcases hg j hj' with (h1 | h1) | h1
    · omega
    · omega
    · omega
  have hb : Below w.heap.size w w' := (newW_below w dp nm).trans (hk.below (by omega) fun j hj' => by rcases hj' with h1 | h1 <;> omega)
  refine ⟨Y', L, ⟨h.disk.keep fun j hj' => hb.block j (h.disk.lt hj'), hj, fun j hy hx => ?_, fun j hj' => ?_, h.old.trans (hb.mono h.old.size)⟩, hi⟩
  · have := hY j hy; have := h.disk.lt hx; omega
  · rcases hj' with hj' | hj'
    · exact h.own j hj'
    · have := hY j hj'; have := h.old.size; omega
set_option maxHeartbeats 4000000 in
set_option maxRecDepth 100000 in
theorem open_kept {its : List Itm} (h : DB w0 w dp X s) (ok : Ok s) (ok1 : Ok (loadS nm.data.toList s).2.2) (ok2 : Ok (keptS nm.data.toList (loadS nm.data.toList s).2.1 (loadS nm.data.toList s).2.2).2) (hn : nm.size ≤ maxLen) (ht : TabAt w0) (hC : CleanB its (loadS nm.data.toList s).2.1) (hil : its.length ≤ 100000000) (hbl : (loadS nm.data.toList s).2.1.length ≤ 1000000000) :
    Calls Tryd.prog 8 #[.pointer (some ⟨dp, 0, none⟩), .string nm] w (OpenK w0 w X dp nm (openS nm.data.toList s)) := by
  have CL := Lib.hid (load_any h ok hn)
  obtain ⟨c1, b1, s1, hl1, hl2, hl3⟩ : ∃ c1 b1 s1, (loadS nm.data.toList s).1 = c1 ∧ (loadS nm.data.toList s).2.1 = b1 ∧ (loadS nm.data.toList s).2.2 = s1 := ⟨_, _, _, rfl, rfl, rfl⟩
  have hl4 : loadS nm.data.toList s = (c1, b1, s1) := by rw [← hl1, ← hl2, ← hl3]
  rw [hl4] at CL ok1 ok2 hC hbl
  simp only at ok1 ok2 hC hbl
  obtain ⟨c2, s2, hk1, hk2⟩ : ∃ c2 s2, (keptS nm.data.toList b1 s1).1 = c2 ∧ (keptS nm.data.toList b1 s1).2 = s2 := ⟨_, _, rfl, rfl⟩
  rw [hk2] at ok2
  obtain ⟨c3, s3, hy1, hy2⟩ : ∃ c3 s3, (syncS nm.data.toList s2).1 = c3 ∧ (syncS nm.data.toList s2).2 = s3 := ⟨_, _, rfl, rfl⟩
  have HO := Lib.hid (show openS nm.data.toList s = if c1 ≠ 0 then (c1, s1, []) else if c2 ≠ 0 then (c2, s2, []) else (c3, s3, scanL [] b1) by
    unfold openS; rw [hl4]; simp only [hk1, hk2, hy1, hy2])
  have HT := Lib.hid ht
  have HOK1 := Lib.hid ok1
  have HOK2 := Lib.hid ok2
  have HC := Lib.hid hC
  have HK1 := Lib.hid hk1
  have HK2 := Lib.hid hk2
  have HY1 := Lib.hid hy1
  have HY2 := Lib.hid hy2
  clear h ok ok1 ok2 ht hC hl1 hl2 hl3 hl4 hk1 hk2 hy1 hy2
  have hmm := @run_makeMap Tryd.prog
  go_enter Tryd.func8, Tryd.ntmps8
  go_wp2_with fail
  refine CL.out.mono ?_
  rintro e w1 ⟨v, X1, rfl, hr, h1, hx, hg1, hk1⟩
  have HK := Lib.hid hk1
  have HGR := Lib.hid hg1
  clear hg1 hk1
  rcases Int.decEq c1 0 with hc1 | hc1
  · have HE := Lib.hid (show OpenK w0 w X dp nm (openS nm.data.toList s) _ w1 from ⟨OpenPost.no (w' := w1) (nm := nm) (r := openS nm.data.toList s) (by rw [HO.out, if_pos hc1]) hc1 h1, HK.out⟩)
    have hc1' : (c1 != 0) = true := by simpa using hc1
    clear hr h1 hx
    go_wp2
    go_ret2
    exact HE.out
  · subst hc1
    replace hr : w1.ownsRow w0.heap.size 5 1 v b1.length (b1.map u8V) := hr
    replace h1 : DB w0 w1 dp X1 s1 := h1
    obtain ⟨A, cc, hv, hlc, hcm⟩ := row_shape (row_base hr (Nat.zero_le _))
    have hob : ∀ b, v.ownBlock = some b → b < w1.heap.size := fun b hb' => by
      rcases hr.2 with ⟨e, _⟩ | ⟨g, cap, cur, e, hB, hg, _⟩
      · rw [e] at hb'; simp [Value.ownBlock] at hb'
      · rw [e] at hb'
        have : g = b := by simpa [Value.ownBlock] using hb'
        rw [← this]
        exact (Array.getElem?_eq_some_iff.1 hg).1
    have hrn : (newW w1 dp nm).ownsRow w0.heap.size 5 1 v b1.length (b1.map u8V) := jrow_below hr (newW_below w1 dp nm)
    have CT := take_row (jat_new w1 dp nm) hrn hbl (fun j hj e => by have := hob j e; rcases hj with h5 | h5 <;> omega) ((HT.out.below h1.old).below (newW_below w1 dp nm)) HC.out hil
    rw [hv] at CT
    rw [hv]
    have CTT := Lib.hid CT
    unfold newW at CTT
    obtain ⟨bl, hbl2⟩ : ∃ bl, bl = b1.length := ⟨_, rfl⟩
    rw [← hbl2] at CTT ⊢
    have H1 := Lib.hid h1
    have HBL := Lib.hid hbl2
    clear CT hrn hob hr h1 hx hv hlc hcm hbl2
    go_wp2_with fail
    refine CTT.out.mono ?_
    rintro e w2 ht2
    obtain ⟨rfl, _⟩ := id ht2
    obtain ⟨Y2, L2, hj2, hi2⟩ := JB.taken H1.out ht2
    have hbn : Below w1.heap.size w1 w2 := taken_below ht2
    have HKP2 := Lib.hid (show Kept X w w2 from HK.out.trans (kept_below (X := X) hbn) (fun _ h => .inl h))
    have HS2 := Lib.hid (show w.heap.size ≤ w2.heap.size from HKP2.out.size)
    clear hbn
    obtain ⟨g0, g1, g2, g3, gf1, gf2, gf3⟩ := blk4 hj2.jat.top
    rw [hi2] at g3
    obtain ⟨fs, hfs⟩ : ∃ fs, fs = (fileL (scanL [] b1)).length := ⟨_, rfl⟩
    rw [← hfs] at g3
    have HI := Lib.hid hi2
    rcases Nat.lt_or_ge fs bl with hlt | hge
    · have hkk : keptS nm.data.toList b1 s1 = cutS nm.data.toList (fs : Nat) s1 := by unfold keptS; rw [← hfs, ← HBL.out, if_pos hlt]
      have CC := Lib.hid (hj2.disk.cut HOK1.out nm hn (fs : Nat))
      rw [← hkk] at CC
      have hltI : (fs : Int) < (bl : Int) := by omega
      have H2 := Lib.hid hj2
      clear ht2 hj2 hi2 hfs hkk CTT CL
      go_wp2_with fail
      refine CC.out.mono ?_
      rintro e w3 ⟨rfl, ha⟩
      rw [HK2.out] at ha
      obtain ⟨X3, h3, hg5, hk5⟩ := H2.out.after2 ha
      have HK3 := Lib.hid (show Kept X w w3 from HKP2.out.trans hk5 (fun j hj => by
        rcases HGR.out j hj with h5 | h5
        · exact .inl h5
        · exact .inr h5))
      have HG3 := Lib.hid (show ∀ j, X3 j → X j ∨ w.heap.size ≤ j from fun j hj => by
        have := HS2.out
        rcases hg5 j hj with h5 | h5
        · exact HGR.out j h5
        · exact .inr (by omega))
      clear hg5 hk5
      rw [HK1.out]
      rcases Int.decEq c2 0 with hc2 | hc2
      · have HE := Lib.hid (show OpenK w0 w X dp nm (openS nm.data.toList s) _ w3 from ⟨OpenPost.no (w' := w3) (nm := nm) (r := openS nm.data.toList s) (by rw [HO.out, if_neg (by simp), if_pos hc2]) hc2 h3.db, HK3.out⟩)
        have hc2' : (c2 != 0) = true := by simpa using hc2
        have hc2'' : (c2 == 0) = false := by simpa using hc2
        clear ha h3
        go_wp2
        go_ret2
        exact HE.out
      · subst hc2
        have HJ := Lib.hid h3
        clear ha h3
        have CS := Lib.hid (HJ.out.disk.sync HOK2.out nm hn)
        have hcs := HJ.out
        go_wp2_with fail
        refine CS.out.mono ?_
        rintro e w4 ⟨rfl, ha⟩
        rw [HY2.out] at ha
        obtain ⟨X4, h4, _, hk5⟩ := HJ.out.after2 ha
        have HK4 := Lib.hid (show Kept X w w4 from HK3.out.trans hk5 HG3.out)
        clear hk5
        rw [HY1.out]
        rcases Int.decEq c3 0 with hc3 | hc3
        · have HE := Lib.hid (show OpenK w0 w X dp nm (openS nm.data.toList s) _ w4 from ⟨OpenPost.no (w' := w4) (nm := nm) (r := openS nm.data.toList s) (by rw [HO.out, if_neg (by simp), if_neg (by simp)]) hc3 h4.db, HK4.out⟩)
          have hc3' : (c3 != 0) = true := by simpa using hc3
          clear ha h4 hcs
          go_wp2
          go_ret2
          exact HE.out
        · subst hc3
          have HE := Lib.hid (show OpenK w0 w X dp nm (openS nm.data.toList s) _ w4 from ⟨OpenPost.yes (w' := w4) (nm := nm) (r := openS nm.data.toList s) (by rw [HO.out, if_neg (by simp), if_neg (by simp)]) h4 HI.out, HK4.out⟩)
          clear ha h4 hcs
          go_wp2
          go_ret2
          exact HE.out
    · have hkk : keptS nm.data.toList b1 s1 = (0, s1) := by unfold keptS; rw [← hfs, ← HBL.out, if_neg (by omega)]
      have hc2 : c2 = 0 := by rw [← HK1.out, hkk]
      have hs2 : s2 = s1 := by rw [← HK2.out, hkk]
      subst hc2 hs2
      have hltI : ¬ (fs : Int) < (bl : Int) := by omega
      have HJ := Lib.hid hj2
      clear ht2 hj2 hi2 hfs hkk CTT CL
      have CS := Lib.hid (HJ.out.disk.sync HOK2.out nm hn)
      have hcs := HJ.out
      go_wp2_with fail
      refine CS.out.mono ?_
      rintro e w4 ⟨rfl, ha⟩
      rw [HY2.out] at ha
      obtain ⟨X4, h4, _, hk5⟩ := HJ.out.after2 ha
      have HK4 := Lib.hid (show Kept X w w4 from HKP2.out.trans hk5 HGR.out)
      clear hk5
      rw [HY1.out]
      rcases Int.decEq c3 0 with hc3 | hc3
      · have HE := Lib.hid (show OpenK w0 w X dp nm (openS nm.data.toList s) _ w4 from ⟨OpenPost.no (w' := w4) (nm := nm) (r := openS nm.data.toList s) (by rw [HO.out, if_neg (by simp), if_neg (by simp)]) hc3 h4.db, HK4.out⟩)
        have hc3' : (c3 != 0) = true := by simpa using hc3
        clear ha h4 hcs
        go_wp2
        go_ret2
        exact HE.out
      · subst hc3
        have HE := Lib.hid (show OpenK w0 w X dp nm (openS nm.data.toList s) _ w4 from ⟨OpenPost.yes (w' := w4) (nm := nm) (r := openS nm.data.toList s) (by rw [HO.out, if_neg (by simp), if_neg (by simp)]) h4 HI.out, HK4.out⟩)
        clear ha h4 hcs
        go_wp2
        go_ret2
        exact HE.out
theorem open_any {its : List Itm} (h : DB w0 w dp X s) (ok : Ok s) (ok1 : Ok (loadS nm.data.toList s).2.2) (ok2 : Ok (keptS nm.data.toList (loadS nm.data.toList s).2.1 (loadS nm.data.toList s).2.2).2) (hn : nm.size ≤ maxLen) (ht : TabAt w0) (hC : CleanB its (loadS nm.data.toList s).2.1) (hil : its.length ≤ 100000000) (hbl : (loadS nm.data.toList s).2.1.length ≤ 1000000000) :
    Calls Tryd.prog 8 #[.pointer (some ⟨dp, 0, none⟩), .string nm] w (OpenPost w0 dp nm (openS nm.data.toList s)) :=
  (open_kept h ok ok1 ok2 hn ht hC hil hbl).mono fun _ _ h => h.1
end
end Go.Proofs.YtdhiofbimebbkaaDoor
