/- take of no bytes; of a row of bytes. -/
import Derived.Test.YtdhiofbimebbkaaDoorJi
namespace Go.Proofs.YtdhiofbimebbkaaDoor
open Go.RowKit Go.Maps
section
variable {w w' : World} {jp jm dp : Nat} {nm : ByteArray} {Y : Nat → Prop} {L : List Ent}
set_option maxHeartbeats 2000000 in
set_option maxRecDepth 100000 in
theorem take_nil (h : JAt w jp jm dp nm Y []) (ht : TabAt w) : Calls Tryd.prog 22 #[.pointer (some ⟨jp, 0, none⟩), .slice none 0 0] w (TakePost w jp jm dp nm Y []) := by
  have HJ := Lib.hid h
  have HT := Lib.hid ht
  clear h ht
  go_enter Tryd.func22, Tryd.ntmps22
  go_wp2_with fail
  go_loopw [9] (fun _ wr => wr = w) (fun _ wr => 0)
  case atStart => rfl
  case round =>
    subst hrel
    have CS := Lib.hid (split_any (w := wr) (A := none) (c := 0) (m := 0) (bs := []) ⟨rfl, fun h => absurd h (Nat.lt_irrefl 0)⟩ (Nat.le_refl _) (by decide) HT.out)
    rw [splitL_nil] at CS
    obtain ⟨c0, c1, c2, c3, f1, f2, f3⟩ := blk4 HJ.out.top
    rw [show ((fileL (itms ([] : List Ent))).length : Nat) = 0 from rfl] at c3
    go_wp2_with fail
    refine CS.out.mono ?_
    rintro e w1 ⟨rfl, hb1⟩
    have HE := Lib.hid (show TakePost wr jp jm dp nm Y [] (.returned (.tuple #[])) w1 from ⟨rfl, ⟨[], Y, HJ.out.below hb1, rfl, fun _ h => .inl h⟩, kept_below hb1⟩)
    clear hb1 CS c0 c1 c2 c3 f1 f2 f3
    go_wp2
    go_end0
    exact HE.out
theorem take_row {v : Value} {bs : List UInt8} {B : Nat} {its : List Itm} (h : JAt w jp jm dp nm Y []) (hr : w.ownsRow B 5 1 v bs.length (bs.map u8V)) (hm : bs.length ≤ 1000000000) (hY : ∀ j, j = jp ∨ j = jm → v.ownBlock ≠ some j) (ht : TabAt w) (hC : CleanB its bs) (hil : its.length ≤ 100000000) :
    Calls Tryd.prog 22 #[.pointer (some ⟨jp, 0, none⟩), v] w (TakePost w jp jm dp nm Y bs) := by
  rcases hr.2 with ⟨e, h0⟩ | ⟨g, cap, cur, e, hB, hg, hlc, hcm, h3, h4⟩
  · have : bs = [] := List.eq_nil_of_length_eq_zero h0
    subst this
    rw [e]; exact take_nil h ht
  · obtain ⟨A, c, e2, hby, hlow⟩ := row_bytes hr
    rw [e] at e2
    injection e2 with e2 _ e3
    subst e2 e3
    subst e
    exact take_some h hby hlc hcm hm (fun e => hY jp (.inl rfl) (by rw [e]; rfl)) (fun e => hY jm (.inr rfl) (by rw [e]; rfl)) (Array.getElem?_eq_some_iff.1 hg).1 ht hC hil
end
end Go.Proofs.YtdhiofbimebbkaaDoor
