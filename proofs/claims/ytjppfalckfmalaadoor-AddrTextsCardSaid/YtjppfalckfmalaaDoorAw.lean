/-
  The document's examples: the law's own 'awake' answers true. The tables hold what the program lays.
-/
import Derived.Test.YtjppfalckfmalaaDoorRRd
namespace Go.Proofs.YtjppfalckfmalaaDoor.Aw
open Go.ChangeShapes Go.WideShapes Go.ChangeAt Go.RowKit
open Go.Proofs.YtjppfalckfmalaaDoor.Sb
open Go.Proofs.YtjppfalckfmalaaDoor.Ad
open Go.Proofs.YtjppfalckfmalaaDoor.Tab
open Go.Proofs.YtjppfalckfmalaaDoor.Tr
open Go.Proofs.YtjppfalckfmalaaDoor.Fo
open Go.Proofs.YtjppfalckfmalaaDoor.RFo
open Go.Proofs.YtjppfalckfmalaaDoor.RRd
set_option linter.unusedVariables false

def exA : ByteArray := ⟨#[10, 1, 2, 3]⟩
def exS : ByteArray := ⟨#[49, 48, 46, 49, 46, 50, 46, 51]⟩
def exB : ByteArray := ⟨#[254, 128, 0, 0, 0, 0, 0, 0, 0, 0, 0, 0, 0, 0, 0, 1]⟩
def exT : ByteArray := ⟨#[102, 101, 56, 48, 58, 48, 58, 48, 58, 48, 58, 48, 58, 48, 58, 48, 58, 49]⟩
theorem num_one (b n : Nat) (h : n < b) : num b n = [dgt n] := num_lt b n h
theorem n10 : num 10 10 = [49, 48] := by rw [num_ge 10 10 (by decide) (by decide), num_lt 10 _ (by decide)]; decide
theorem nfe : num 16 65152 = [102, 101, 56, 48] := by
  rw [num_ge 16 65152 (by decide) (by decide), num_ge 16 _ (by decide) (by decide), num_ge 16 _ (by decide) (by decide), num_lt 16 _ (by decide)]; decide
theorem wa : words 1 4 exA.data.toList = [10, 1, 2, 3] := by decide +kernel
theorem wb : words 2 8 exB.data.toList = [65152, 0, 0, 0, 0, 0, 0, 1] := by decide +kernel
theorem ta : atxt exA = exS.data.toList := by
  rw [atxt4 exA rfl, txt, wa]
  simp only [List.map_cons, List.map_nil]
  rw [n10, num_lt 10 1 (by decide), num_lt 10 2 (by decide), num_lt 10 3 (by decide)]
  decide
theorem tb : atxt exB = exT.data.toList := by
  rw [atxt6 exB rfl, txt, wb]
  simp only [List.map_cons, List.map_nil]
  rw [nfe, num_lt 16 0 (by decide), num_lt 16 1 (by decide)]
  decide
theorem readEx : rdO exS = true ∧ rdA exS = exA := rd_yes exS exA ⟨rfl, ta⟩
theorem textEx : isA exB = true ∧ txA exB = exT := ⟨rfl, by rw [txA, if_pos (show isA exB = true from rfl), tb]⟩

set_option maxHeartbeats 2000000 in
theorem awake_any (w : World) (ht : Tabs w) :
    Calls Tryd.prog 6 #[] w fun e w' => e = .returned (.bool true) ∧ Below w.heap.size w w' := by
  have P1 := Lib.hid (read_any exS (by decide) w ht)
  rw [readEx.1, readEx.2] at P1
  have P2 := Lib.hid (fun w ht => text_any exB w ht)
  rw [textEx.1, textEx.2] at P2
  have P3 := Lib.hid (fun w => family_any exA w)
  rw [fam4 rfl] at P3
  have P4 := Lib.hid (fun w => link_any exA w)
  rw [show lnk exA = false from rfl] at P4
  have HT := Lib.hid ht
  clear ht
  unfold exS exA at *
  unfold exB exT at *
  go_enter Tryd.func6, Tryd.ntmps6
  go_wp2_with fail
  refine P1.out.mono ?_
  rintro e w1 ⟨rfl, hb1⟩
  go_wp2_with fail
  refine (P2.out _ (HT.out.below hb1)).mono ?_
  rintro e w2 ⟨rfl, hb2⟩
  go_wp2_with (first
    | (go_at_call 11; refine (P3.out _).mono ?_; rintro e w' ⟨rfl, rfl⟩)
    | (go_at_call 13; refine (P4.out _).mono ?_; rintro e w' ⟨rfl, rfl⟩))
  go_ret
  exact ⟨rfl, bcall hb1 hb2 hb1.size⟩
end Go.Proofs.YtjppfalckfmalaaDoor.Aw
