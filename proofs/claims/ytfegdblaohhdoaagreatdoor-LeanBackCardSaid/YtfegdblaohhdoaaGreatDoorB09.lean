/-
  The program's calls on the writer: bytes, numbers, the fields of each kind; Put. Conditions: bytes of the call's own; the message's lists stand in the world, and aren't long; the variable has what it is laid with.
  Whether a message may be: the program's answer and the document's. Conditions: the message's lists stand in the world, and aren't long; the variable has what it is laid with.
  The program's calls on the writer: bytes, numbers, the fields of both kinds; Put. Conditions: bytes of the call's own; the message's lists stand in the world, and aren't long; the variable has what it is laid with.
  Whether a message may be, and the TLV of one that is no Update: the program's Right and alone. Conditions: the message's lists stand in the world, and aren't long; the variables have what they are laid with.
  An Update's TLVs, any message's, and its bytes: the program's update, tlvs and Put. Conditions: what is known may be; the message's lists stand in the world, and aren't long; the variables have what they are laid with.
-/
import Derived.Test.YtfegdblaohhdoaaGreatDoorB05
import Derived.Test.YtfegdblaohhdoaaGreatDoorB06
import Derived.Test.YtfegdblaohhdoaaGreatDoorB07
import Derived.Test.YtfegdblaohhdoaaGreatDoorB08
namespace Go.Proofs.YtfegdblaohhdoaaGreatDoor.G3
open Go.ChangeShapes Go.WideShapes Go.ChangeAt Go.RowKit
open Go.Proofs.YtfegdblaohhdoaaGreatDoor.Ms
open Go.Proofs.YtfegdblaohhdoaaGreatDoor.Box
open Go.Proofs.YtfegdblaohhdoaaGreatDoor.S1
open Go.Proofs.YtfegdblaohhdoaaGreatDoor.Nu
open Go.Proofs.YtfegdblaohhdoaaGreatDoor.G1
open Go.Proofs.YtfegdblaohhdoaaGreatDoor.G2
open Go.Proofs.YtfegdblaohhdoaaGreatDoor.An
open Go.Proofs.YtfegdblaohhdoaaGreatDoor.Tc
open Go.Proofs.YtfegdblaohhdoaaGreatDoor.Ow
open Go.Proofs.YtfegdblaohhdoaaGreatDoor.Oct (fitsB)
open Go.Proofs.YtfegdblaohhdoaaGreatDoor.F1 (putB putO)
open Go.Proofs.YtfegdblaohhdoaaGreatDoor.Hs (run_loadM)
open Go.Proofs.YtfegdblaohhdoaaGreatDoor.Or (st_yes)
open Go.Proofs.YtfegdblaohhdoaaGreatDoor.Bk (Bk)
set_option linter.unusedVariables false
set_option maxRecDepth 100000
set_option maxRecDepth 100000
/-- The call's own writer in block b has laid bs; what is new begins at B. -/
def Wri (B b : Nat) (bs : List UInt8) (w : World) : Prop := B ≤ b ∧ ∃ v, Bk 121 w b #[v] ∧ Own B w v bs
theorem neW : (121 : TypeId) ≠ 5 := by decide
theorem Wri.below {B b : Nat} {l : List UInt8} {w w' : World} (h : Wri B b l w) (hb : Below w.heap.size w w') : Wri B b l w' := by
  obtain ⟨h1, v, h2, h3⟩ := h
  exact ⟨h1, v, h2.below hb, h3.below hb⟩
theorem Wri.lt {B b : Nat} {l : List UInt8} {w : World} (h : Wri B b l w) : b < w.heap.size := by
  obtain ⟨h1, v, h2, h3⟩ := h
  exact h2.lt
/-- What a call on the writer leaves. -/
def Laid (B b : Nat) (bs : List UInt8) (w : World) (e : Ending) (w' : World) : Prop := e = .returned (.tuple #[]) ∧ Wri B b bs w' ∧ Below B w w' ∧ Oth b w w'
set_option maxHeartbeats 1600000 in
theorem text_any (B b : Nat) (bs : List UInt8) (s : ByteArray) (w : World) (h : Wri B b bs w) (hB : B ≤ w.heap.size) (hl : bs.length ≤ 800000) (hs : s.size ≤ 100000) :
    Calls Tryz.prog 148 #[.pointer (some ⟨b, 0, none⟩), .string s] w (Laid B b (bs ++ s.data.toList) w) := by
  obtain ⟨hBb, v, hb, hown⟩ := h
  have d0 := hb.cell 0 v rfl
  have HB := Lib.hid hb
  have HO := Lib.hid hown
  clear hb hown
  go_enter Tryz.func148, Tryz.ntmps148
  go_wp2_with (at_builtin; refine app_str rfl _ _ rfl B v bs s rfl HO.out rfl ?cL hB ?_)
  case cL => omega
  intro v' w2 hown2 hgrow hbel
  have hlt := HB.out.lt
  have hne := ob_ne HO.out HB.out neW
  have hb2 : Bk 121 w2 b #[v] := (hgrow.block b hlt (fun e => hne e.symm)).trans HB.out
  have HT := Lib.hid (Oth.grown (b := b) HO.out hgrow)
  obtain ⟨va2, vc2, rfl⟩ := own_form hown2
  have d0 := hb2.cell 0 v rfl
  have f0 := hb2.frozen 0
  have HB2 := Lib.hid hb2
  have HO2 := Lib.hid hown2
  clear hb2 hown2 hgrow HB HO hne hlt
  generalize bs ++ s.data.toList = bs2 at *
  go_wp2_with fail
  go_end0
  exact ⟨rfl, ⟨hBb, _, HB2.out.set rfl, own_set HO2.out HB2.out neW⟩, hbel.setCell (p := ⟨b, 0, none⟩) hBb _, HT.out.trans Oth.set⟩
set_option maxHeartbeats 800000 in
theorem num_any (B b : Nat) (bs : List UInt8) (v : Int) (n : Nat) (ni : Int) (hni : ni = n) (h1 : 1 ≤ n) (h7 : n ≤ 7) (w : World) (h : Wri B b bs w) (hB : B ≤ w.heap.size) (hl : bs.length ≤ 800000) :
    Calls Tryz.prog 140 #[.pointer (some ⟨b, 0, none⟩), .int .i64 v, .int .i64 ni] w (Laid B b (bs ++ layN v n) w) := by
  have P1 := Lib.hid (oput_any v n ni hni h1 h7 w)
  have HS := Lib.hid (show (⟨(layN v n).toArray⟩ : ByteArray).size ≤ 100000 from by have := layN_len v n; show (layN v n).toArray.size ≤ _; simp; omega)
  have HE := Lib.hid (show (⟨(layN v n).toArray⟩ : ByteArray).data.toList = layN v n from rfl)
  generalize (⟨(layN v n).toArray⟩ : ByteArray) = s at *
  have HW := Lib.hid h
  clear h hni
  go_enter Tryz.func140, Tryz.ntmps140
  go_wp2_with fail
  refine P1.out.mono ?_
  rintro e w1 ⟨rfl, hb⟩
  have P2 := Lib.hid (text_any B b bs s w1 (HW.out.below hb) (Nat.le_trans hB hb.size) hl HS.out)
  have HO := Lib.hid (Oth.below (b := b) hb)
  have HL := Lib.hid (hb.mono hB)
  clear hb P1
  go_wp2_with fail
  refine P2.out.mono ?_
  rintro e w2 ⟨rfl, hw, hb, ho⟩
  go_wp2_with fail
  go_end0
  exact ⟨rfl, by rw [← HE.out]; exact hw, HL.out.trans hb, HO.out.trans ho⟩
/-- What stands in the middle of laying a message's fields: the writer, the message's copy in block k. -/
structure U (B b k : Nat) (w0 W : World) (m : M) (bs : List UInt8) : Prop where
  wr : Wri B b bs W
  m : Bx W k m
  bel : Below B w0 W
  oth : Oth b w0 W
  siz : B ≤ W.heap.size
  ne : k ≠ b
section
variable {B b k : Nat} {w0 W W' : World} {m : M} {bs bs' : List UInt8}
theorem U.start (w : World) (h : Wri B b bs w) (hB : B ≤ w.heap.size) : U B b w.heap.size w (w.alloc (.cells m.cells 29)) m bs :=
  ⟨h.below (balloc (Below.refl _ w) _), Bx.new w m, (balloc (Below.refl _ w) _).mono hB, Oth.below (balloc (Below.refl _ w) _), Nat.le_trans hB (balloc (Below.refl w.heap.size w) (.cells m.cells 29)).size, by have := h.lt; omega⟩
theorem U.call (u : U B b k w0 W m bs) (hb : Below W.heap.size W W') : U B b k w0 W' m bs :=
  ⟨u.wr.below hb, u.m.below hb, u.bel.trans (hb.mono u.siz), u.oth.trans (Oth.below hb), Nat.le_trans u.siz hb.size, u.ne⟩
theorem U.lay {e : Ending} (u : U B b k w0 W m bs) (h : Laid B b bs' W e W') : U B b k w0 W' m bs' :=
  ⟨h.2.1, h.2.2.2.bx u.ne u.m, u.bel.trans h.2.2.1, u.oth.trans h.2.2.2, Nat.le_trans u.siz h.2.2.1.size, u.ne⟩
end
theorem zeros_list (n : Nat) : (⟨(List.replicate n (0 : UInt8)).toArray⟩ : ByteArray).data.toList = List.replicate n 0 := rfl
set_option maxHeartbeats 3200000 in
theorem ackReq_any (B b : Nat) (bs : List UInt8) (m : M) (w : World) (h : Wri B b bs w) (hB : B ≤ w.heap.size) (hl : bs.length ≤ 700000) : Calls Tryz.prog 139 #[.pointer (some ⟨b, 0, none⟩), .agg m.cells] w (Laid B b (bs ++ fld7 m) w) := by
  have HL := Lib.hid hl
  clear hl
  have HU := Lib.hid (U.start (m := m) w h hB)
  clear h
  go_enter Tryz.func139, Tryz.ntmps139
  go_upto_region 1 with fail
  generalize w.alloc (.cells m.cells 29) = V at *
  generalize w.heap.size = k at *
  have c14 := HU.out.m.cs.c14
  have c17 := HU.out.m.cs.c17
  go_wp2_with fail
  refine (Oct.zeros_mid 2 _ (by omega)).mono ?_
  rintro r V' ⟨rfl, hb⟩
  have HU := Lib.hid (HU.out.call hb)
  clear hb
  clear c14 c17
  have c14 := HU.out.m.cs.c14
  have c17 := HU.out.m.cs.c17
  go_wp2_with fail
  refine (text_any B b _ ⟨(List.replicate 2 (0 : UInt8)).toArray⟩ _ HU.out.wr HU.out.siz (by have := HL.out; omega) (by decide)).mono ?_
  rintro r V' hlaid
  have HU := Lib.hid (HU.out.lay hlaid)
  obtain ⟨rfl, hlaid⟩ := hlaid
  clear hlaid
  clear c14 c17
  have c14 := HU.out.m.cs.c14
  have c17 := HU.out.m.cs.c17
  rw [zeros_list] at HU
  go_wp2_with fail
  refine (num_any B b _ m.nonce 2 2 rfl (by omega) (by omega) _ HU.out.wr HU.out.siz (by have := HL.out; simp only [List.length_append, List.length_replicate]; have := layN_len (m.nonce) 2; omega)).mono ?_
  rintro r V' hlaid
  have HU := Lib.hid (HU.out.lay hlaid)
  obtain ⟨rfl, hlaid⟩ := hlaid
  clear hlaid
  clear c14
  have c14 := HU.out.m.cs.c14
  go_wp2_with fail
  refine (num_any B b _ m.interval 2 2 rfl (by omega) (by omega) _ HU.out.wr HU.out.siz (by have := HL.out; simp only [List.length_append, List.length_replicate]; have := layN_len (m.interval) 2; have := layN_len (m.nonce) 2; omega)).mono ?_
  rintro r V' hlaid
  have HU := Lib.hid (HU.out.lay hlaid)
  obtain ⟨rfl, hlaid⟩ := hlaid
  clear hlaid
  go_wp2_with fail
  go_end0
  refine ⟨rfl, ?_, HU.out.bel, HU.out.oth⟩
  have hw := HU.out.wr
  rw [show bs ++ fld7 m = bs ++ List.replicate 2 0 ++ layN m.nonce 2 ++ layN m.interval 2 by simp [fld7]]; exact hw
set_option maxHeartbeats 3200000 in
theorem hello_any (B b : Nat) (bs : List UInt8) (m : M) (w : World) (h : Wri B b bs w) (hB : B ≤ w.heap.size) (hl : bs.length ≤ 700000) (f0 : 0 ≤ m.flags) (f1 : m.flags ≤ 1) : Calls Tryz.prog 141 #[.pointer (some ⟨b, 0, none⟩), .agg m.cells] w (Laid B b (bs ++ fld9 m) w) := by
  have HL := Lib.hid hl
  have hq : wrap64 (m.flags * 32768) = m.flags * 32768 := IntWalk.wrap64_in _ ⟨by omega, by omega⟩
  clear hl
  have HU := Lib.hid (U.start (m := m) w h hB)
  clear h
  go_enter Tryz.func141, Tryz.ntmps141
  go_upto_region 1 with fail
  generalize w.alloc (.cells m.cells 29) = V at *
  generalize w.heap.size = k at *
  have c12 := HU.out.m.cs.c12
  have c14 := HU.out.m.cs.c14
  have c15 := HU.out.m.cs.c15
  go_wp2_with fail
  refine (num_any B b _ (m.flags * 32768) 2 2 rfl (by omega) (by omega) _ HU.out.wr HU.out.siz (by have := HL.out; have := layN_len ((m.flags * 32768)) 2; omega)).mono ?_
  rintro r V' hlaid
  have HU := Lib.hid (HU.out.lay hlaid)
  obtain ⟨rfl, hlaid⟩ := hlaid
  clear hlaid
  clear c12 c14
  have c12 := HU.out.m.cs.c12
  have c14 := HU.out.m.cs.c14
  go_wp2_with fail
  refine (num_any B b _ m.seq 2 2 rfl (by omega) (by omega) _ HU.out.wr HU.out.siz (by have := HL.out; simp only [List.length_append]; have := layN_len (m.seq) 2; have := layN_len (m.flags * 32768) 2; omega)).mono ?_
  rintro r V' hlaid
  have HU := Lib.hid (HU.out.lay hlaid)
  obtain ⟨rfl, hlaid⟩ := hlaid
  clear hlaid
  clear c14
  have c14 := HU.out.m.cs.c14
  go_wp2_with fail
  refine (num_any B b _ m.interval 2 2 rfl (by omega) (by omega) _ HU.out.wr HU.out.siz (by have := HL.out; simp only [List.length_append]; have := layN_len (m.interval) 2; have := layN_len (m.flags * 32768) 2; have := layN_len (m.seq) 2; omega)).mono ?_
  rintro r V' hlaid
  have HU := Lib.hid (HU.out.lay hlaid)
  obtain ⟨rfl, hlaid⟩ := hlaid
  clear hlaid
  go_wp2_with fail
  go_end0
  refine ⟨rfl, ?_, HU.out.bel, HU.out.oth⟩
  have hw := HU.out.wr
  rw [show bs ++ fld9 m = bs ++ layN (m.flags * 32768) 2 ++ layN m.seq 2 ++ layN m.interval 2 by simp [fld9]]; exact hw
set_option maxHeartbeats 3200000 in
theorem ihu_any (B b : Nat) (bs : List UInt8) (m : M) (w : World) (h : Wri B b bs w) (hB : B ≤ w.heap.size) (hl : bs.length ≤ 700000) (ha : shB m.ae m.addr = true) (ht : Tab w) (hB0 : 1 < B) : Calls Tryz.prog 142 #[.pointer (some ⟨b, 0, none⟩), .agg m.cells] w (Laid B b (bs ++ fld10 m) w) := by
  have HL := Lib.hid hl
  have PS := Lib.hid (fun V (h : Tab V) => shorten_any m.ae m.addr V h)
  have HE := Lib.hid (show bs ++ fld10 m = bs ++ layN m.ae 1 ++ List.replicate 1 0 ++ layN m.cost 2 ++ layN m.interval 2 ++ (shT m.ae m.addr).data.toList by simp [fld10])
  have HT := Lib.hid ht
  rw [ha] at PS
  have HZ := Lib.hid (show (shT m.ae m.addr).size ≤ 100000 by have := (sh_facts ha).2.2.1; have := sizeA_le m.ae; omega)
  generalize shT m.ae m.addr = sa at *
  clear hl ha ht
  have HU := Lib.hid (U.start (m := m) w h hB)
  clear h
  go_enter Tryz.func142, Tryz.ntmps142
  go_upto_region 1 with fail
  generalize w.alloc (.cells m.cells 29) = V at *
  generalize w.heap.size = k at *
  have c5 := HU.out.m.cs.c5
  have c14 := HU.out.m.cs.c14
  have c18 := HU.out.m.cs.c18
  have c19 := HU.out.m.cs.c19
  go_wp2_with fail
  refine (num_any B b _ m.ae 1 1 rfl (by omega) (by omega) _ HU.out.wr HU.out.siz (by have := HL.out; have := layN_len (m.ae) 1; omega)).mono ?_
  rintro r V' hlaid
  have HU := Lib.hid (HU.out.lay hlaid)
  obtain ⟨rfl, hlaid⟩ := hlaid
  clear hlaid
  clear c5 c14 c18 c19
  have c5 := HU.out.m.cs.c5
  have c14 := HU.out.m.cs.c14
  have c18 := HU.out.m.cs.c18
  have c19 := HU.out.m.cs.c19
  go_wp2_with fail
  refine (Oct.zeros_mid 1 _ (by omega)).mono ?_
  rintro r V' ⟨rfl, hb⟩
  have HU := Lib.hid (HU.out.call hb)
  clear hb
  clear c5 c14 c18 c19
  have c5 := HU.out.m.cs.c5
  have c14 := HU.out.m.cs.c14
  have c18 := HU.out.m.cs.c18
  have c19 := HU.out.m.cs.c19
  go_wp2_with fail
  refine (text_any B b _ ⟨(List.replicate 1 (0 : UInt8)).toArray⟩ _ HU.out.wr HU.out.siz (by have := HL.out; simp only [List.length_append]; have := layN_len (m.ae) 1; omega) (by decide)).mono ?_
  rintro r V' hlaid
  have HU := Lib.hid (HU.out.lay hlaid)
  obtain ⟨rfl, hlaid⟩ := hlaid
  clear hlaid
  clear c5 c14 c18 c19
  have c5 := HU.out.m.cs.c5
  have c14 := HU.out.m.cs.c14
  have c18 := HU.out.m.cs.c18
  have c19 := HU.out.m.cs.c19
  rw [zeros_list] at HU
  go_wp2_with fail
  refine (num_any B b _ m.cost 2 2 rfl (by omega) (by omega) _ HU.out.wr HU.out.siz (by have := HL.out; simp only [List.length_append, List.length_replicate]; have := layN_len (m.cost) 2; have := layN_len (m.ae) 1; omega)).mono ?_
  rintro r V' hlaid
  have HU := Lib.hid (HU.out.lay hlaid)
  obtain ⟨rfl, hlaid⟩ := hlaid
  clear hlaid
  clear c5 c14 c19
  have c5 := HU.out.m.cs.c5
  have c14 := HU.out.m.cs.c14
  have c19 := HU.out.m.cs.c19
  go_wp2_with fail
  refine (num_any B b _ m.interval 2 2 rfl (by omega) (by omega) _ HU.out.wr HU.out.siz (by have := HL.out; simp only [List.length_append, List.length_replicate]; have := layN_len (m.interval) 2; have := layN_len (m.ae) 1; have := layN_len (m.cost) 2; omega)).mono ?_
  rintro r V' hlaid
  have HU := Lib.hid (HU.out.lay hlaid)
  obtain ⟨rfl, hlaid⟩ := hlaid
  clear hlaid
  clear c5 c19
  have c5 := HU.out.m.cs.c5
  have c19 := HU.out.m.cs.c19
  go_wp2_with fail
  refine (PS.out _ (HT.out.under HU.out.bel hB0)).mono ?_
  rintro r V' ⟨rfl, rfl⟩
  go_wp2_with fail
  refine (text_any B b _ sa _ HU.out.wr HU.out.siz (by have := HL.out; simp only [List.length_append, List.length_replicate]; have := layN_len (m.ae) 1; have := layN_len (m.cost) 2; have := layN_len (m.interval) 2; omega) HZ.out).mono ?_
  rintro r V' hlaid
  have HU := Lib.hid (HU.out.lay hlaid)
  obtain ⟨rfl, hlaid⟩ := hlaid
  clear hlaid
  go_wp2_with fail
  go_end0
  refine ⟨rfl, ?_, HU.out.bel, HU.out.oth⟩
  have hw := HU.out.wr
  rw [HE.out]; exact hw
/-- What fields leaves: the type. -/
def LaidT (B b : Nat) (t : Int) (bs : List UInt8) (w : World) (e : Ending) (w' : World) : Prop := e = .returned (.int .i64 t) ∧ Wri B b bs w' ∧ Below B w w' ∧ Oth b w w'
set_option maxHeartbeats 3200000 in
theorem fields_any (B b : Nat) (m : M) (w : World) (h : Wri B b [] w) (hB : B ≤ w.heap.size) (hk : kindB m = true) (ht : Tab w) (hB0 : 1 < B) : Calls Tryz.prog 120 #[.pointer (some ⟨b, 0, none⟩), .agg m.cells] w (LaidT B b (typF m) (fldF m) w) := by
  rcases kind_cases hk with k1 | k1 | ⟨k1, f0, f1⟩ | ⟨k1, ha⟩
  · rw [(f_7 k1).1, (f_7 k1).2]
    clear hk
    have HU := Lib.hid (U.start (m := m) w h hB)
    clear h
    go_enter Tryz.func120, Tryz.ntmps120
    go_upto_region 1 with fail
    generalize w.alloc (.cells m.cells 29) = V at *
    generalize w.heap.size = k at *
    have c0 := HU.out.m.cs.c0
    rw [k1] at c0
    go_wp2_with (first | (refine wpList_loadM (b := k) (m := m) rfl _ rfl rfl HU.out.m ?_))
    refine (ackReq_any B b [] m _ HU.out.wr HU.out.siz (by decide)).mono ?_
    rintro r V' hlaid
    have HU := Lib.hid (HU.out.lay hlaid)
    obtain ⟨rfl, hlaid⟩ := hlaid
    clear hlaid c0
    go_wp2
    go_ret
    exact ⟨rfl, HU.out.wr, HU.out.bel, HU.out.oth⟩
  · rw [(f_8 k1).1, (f_8 k1).2]
    clear hk
    have HU := Lib.hid (U.start (m := m) w h hB)
    clear h
    go_enter Tryz.func120, Tryz.ntmps120
    go_upto_region 1 with fail
    generalize w.alloc (.cells m.cells 29) = V at *
    generalize w.heap.size = k at *
    have c0 := HU.out.m.cs.c0
    have c17 := HU.out.m.cs.c17
    rw [k1] at c0
    go_wp2_with fail
    refine (num_any B b [] m.nonce 2 2 rfl (by omega) (by omega) _ HU.out.wr HU.out.siz (by decide)).mono ?_
    rintro r V' hlaid
    have HU := Lib.hid (HU.out.lay hlaid)
    obtain ⟨rfl, hlaid⟩ := hlaid
    clear hlaid c0
    go_wp2
    go_ret
    exact ⟨rfl, HU.out.wr, HU.out.bel, HU.out.oth⟩
  · rw [(f_9 k1).1, (f_9 k1).2]
    clear hk
    have HU := Lib.hid (U.start (m := m) w h hB)
    clear h
    go_enter Tryz.func120, Tryz.ntmps120
    go_upto_region 1 with fail
    generalize w.alloc (.cells m.cells 29) = V at *
    generalize w.heap.size = k at *
    have c0 := HU.out.m.cs.c0
    rw [k1] at c0
    go_wp2_with (first | (refine wpList_loadM (b := k) (m := m) rfl _ rfl rfl HU.out.m ?_))
    refine (hello_any B b [] m _ HU.out.wr HU.out.siz (by decide) f0 f1).mono ?_
    rintro r V' hlaid
    have HU := Lib.hid (HU.out.lay hlaid)
    obtain ⟨rfl, hlaid⟩ := hlaid
    clear hlaid c0
    go_wp2
    go_ret
    exact ⟨rfl, HU.out.wr, HU.out.bel, HU.out.oth⟩
  · rw [(f_10 k1).1, (f_10 k1).2]
    clear hk
    have HT := Lib.hid ht
    clear ht
    have HU := Lib.hid (U.start (m := m) w h hB)
    clear h
    go_enter Tryz.func120, Tryz.ntmps120
    go_upto_region 1 with fail
    generalize w.alloc (.cells m.cells 29) = V at *
    generalize w.heap.size = k at *
    have c0 := HU.out.m.cs.c0
    rw [k1] at c0
    go_wp2_with (first | (refine wpList_loadM (b := k) (m := m) rfl _ rfl rfl HU.out.m ?_))
    refine (ihu_any B b [] m _ HU.out.wr HU.out.siz (by decide) ha (HT.out.under HU.out.bel hB0) hB0).mono ?_
    rintro r V' hlaid
    have HU := Lib.hid (HU.out.lay hlaid)
    obtain ⟨rfl, hlaid⟩ := hlaid
    clear hlaid c0
    go_wp2
    go_ret
    exact ⟨rfl, HU.out.wr, HU.out.bel, HU.out.oth⟩
theorem dat_cat (m : M) : (⟨(fldF m).toArray⟩ : ByteArray) ++ putS m.sl = datF m := text_eq (by unfold datF; simp [ByteArray.data_append])
set_option maxHeartbeats 6400000 in
theorem put_any (m : M) (w : World) (hm : m.In w) (ln : m.sl.length ≤ 2000) (lb : ∀ x ∈ m.sl, x.1.size ≤ 1099511627776) (ht : Tab w) : Calls Tryz.prog 86 #[.agg m.cells] w fun e w' => e = .returned (.tuple #[.string (putF m), .bool (okF m)]) ∧ Below w.heap.size w w' := by
  have HF := Lib.hid (Fs.new w m hm)
  have hp1 := ht.pos
  have HM := Lib.hid (ht.below (balloc (Below.refl _ w) (.cells m.cells 29)))
  have HI := Lib.hid hm
  have P1 := Lib.hid (fun V (h : m.In V) (t : Tab V) => right_any m V h lb t)
  have P2 := Lib.hid (fun V (h : m.In V) => S3.put_any m.sa m.sc m.sl V h.s ln lb)
  clear lb hm ln ht
  cases hok : okF m
  · have HK := Lib.hid (putF_no hok)
    rw [hok] at P1
    clear hok
    go_enter Tryz.func86, Tryz.ntmps86
    go_upto_region 1 with fail
    generalize w.alloc (.cells m.cells 29) = V at *
    go_wp2_with (first | (refine wpList_loadM (b := w.heap.size) (m := m) rfl _ rfl rfl HF.out.m ?_))
    refine (P1.out _ HF.out.i HM.out).mono ?_
    rintro r w1 ⟨rfl, hb⟩
    have HF := Lib.hid (HF.out.call hb)
    clear hb
    go_wp2
    go_ret2
    exact ⟨pair_eq HK.out.symm rfl, HF.out.bel⟩
  have HK := Lib.hid (putF_yes hok)
  have HX := Lib.hid ((ok_iff m).1 hok).kind
  have HS := Lib.hid ((ok_iff m).1 hok).subs
  have HY := Lib.hid (putB_yes hok)
  have HZ := Lib.hid (show (datF m).size ≤ 1048576 by have := dat_le hok; omega)
  have HC := Lib.hid (dat_cat m)
  have HC1 := Lib.hid (show (⟨(fldF m).toArray⟩ : ByteArray).size ≤ 2000000 by have := (fld_len hok).1; show (fldF m).toArray.size ≤ _; simp; omega)
  have HC2 := Lib.hid (show (putS m.sl).size ≤ 2000000 by have := putS_le m.sl; omega)
  rw [hok] at P1
  rw [HS.out] at P2
  clear hok
  go_enter Tryz.func86, Tryz.ntmps86
  go_upto_region 1 with fail
  generalize w.alloc (.cells m.cells 29) = V at *
  go_wp2_with (first | (refine wpList_loadM (b := w.heap.size) (m := m) rfl _ rfl rfl HF.out.m ?_))
  refine (P1.out _ HF.out.i HM.out).mono ?_
  rintro r w1 ⟨rfl, hb⟩
  have HF := Lib.hid (HF.out.call hb)
  have HM := Lib.hid (HM.out.below hb)
  clear hb P1
  go_upto_region 4 with fail
  have bel := balloc (Below.refl w1.heap.size w1) (.cells #[.slice none 0 0] 121)
  have HW := Lib.hid (show Wri w1.heap.size w1.heap.size [] (w1.alloc (.cells #[.slice none 0 0] 121)) from ⟨Nat.le_refl _, .slice none 0 0, Bk.Bk.new _ w1 _, Own.nil _ _⟩)
  have hlt : w.heap.size < w1.heap.size := HF.out.m.lt
  have HF := Lib.hid (HF.out.call bel)
  have HM := Lib.hid (HM.out.below bel)
  have hsz : w1.heap.size ≤ (w1.alloc (.cells #[.slice none 0 0] 121)).heap.size := bel.size
  clear bel
  generalize w1.alloc (.cells #[.slice none 0 0] 121) = W at *
  generalize w1.heap.size = b at *
  go_wp2_with (first | (refine wpList_loadM (b := w.heap.size) (m := m) rfl _ rfl rfl HF.out.m ?_))
  refine (fields_any b b m _ HW.out hsz HX.out HM.out (by omega)).mono ?_
  rintro r w2 ⟨rfl, hw, hb, ho⟩
  have HF := Lib.hid (show Fs w w2 w.heap.size m from ⟨ho.bx (by omega) HF.out.m, HI.out.below (HF.out.bel.trans (hb.mono (by omega))), HF.out.bel.trans (hb.mono (by omega))⟩)
  have HW := Lib.hid hw
  clear hw hb ho hsz HM
  have c24 := HF.out.m.cs.c24
  go_wp2_with fail
  refine (P2.out _ HF.out.i).mono ?_
  rintro r w3 ⟨rfl, hb⟩
  have HF := Lib.hid (HF.out.call hb)
  have HW := Lib.hid (HW.out.below hb)
  clear hb c24 P2
  obtain ⟨_, v, hb, ho⟩ := HW.out
  have d0 := hb.cell 0 v rfl
  have cv := ho.conv
  have ct := fun W => F6.cat_is _ _ _ HC1.out HC2.out HC.out W
  have PP := Lib.hid (fun V => F6.put_any (typF m) (datF m) V HZ.out)
  generalize (⟨(fldF m).toArray⟩ : ByteArray) = fa at *
  generalize putS m.sl = sb at *
  generalize datF m = da at *
  generalize typF m = ty at *
  clear hb ho HW
  go_wp2_with fail
  refine (PP.out _).mono ?_
  rintro r w4 ⟨rfl, hb⟩
  have HF := Lib.hid (HF.out.call hb)
  clear hb
  go_wp2
  go_ret2
  exact ⟨pair_eq HK.out.symm HY.out, HF.out.bel⟩
end Go.Proofs.YtfegdblaohhdoaaGreatDoor.G3
namespace Go.Proofs.YtfegdblaohhdoaaGreatDoor.Jr
open Go.ChangeShapes Go.WideShapes Go.ChangeAt Go.RowKit
open Go.Proofs.YtfegdblaohhdoaaGreatDoor.Ms
open Go.Proofs.YtfegdblaohhdoaaGreatDoor.Box
open Go.Proofs.YtfegdblaohhdoaaGreatDoor.S1
open Go.Proofs.YtfegdblaohhdoaaGreatDoor.J1
open Go.Proofs.YtfegdblaohhdoaaGreatDoor.J2
open Go.Proofs.YtfegdblaohhdoaaGreatDoor.An
open Go.Proofs.YtfegdblaohhdoaaGreatDoor.Tc
open Go.Proofs.YtfegdblaohhdoaaGreatDoor.Oct (fitsB)
open Go.Proofs.YtfegdblaohhdoaaGreatDoor.Hs (run_loadM)
open Go.Proofs.YtfegdblaohhdoaaGreatDoor.Or (st_yes)
set_option linter.unusedVariables false
set_option maxRecDepth 100000
set_option maxRecDepth 100000
theorem mbare_any (m : M) (w : World) (hm : m.In w) : Calls Tryz.prog 31 #[.agg m.cells] w fun e w' => e = .returned (.bool (bare m)) ∧ Below w.heap.size w w' := Bare.bare_any m w hm
set_option maxHeartbeats 6400000 in
theorem right_any (m : M) (w : World) (hm : m.In w) (lb : ∀ x ∈ m.sl, x.1.size ≤ 1099511627776) (hp : m.pfx.size ≤ maxLen) (ht : Tab w) : Calls Tryz.prog 30 #[.agg m.cells] w fun e w' => e = .returned (.bool (okJ m)) ∧ Below w.heap.size w w' := by
  have HF := Lib.hid (Fs.new w m hm)
  have HM := Lib.hid (ht.below (balloc (Below.refl _ w) (.cells m.cells 29)))
  have HK := Lib.hid (show okJ m = (bare m && (inB m.ae m.pfx m.plen && (okS m.sl && kindB m))) from rfl)
  have P1 := Lib.hid (fun V (h : m.In V) => mbare_any m V h)
  have P2 := Lib.hid (fun V (h : Tab V) => in_any m.ae m.pfx m.plen V hp h)
  have P3 := Lib.hid (fun V (h : m.In V) => S2.right_any m.sa m.sc m.sl V h.s h.sl lb)
  have P4 := Lib.hid (fun V => kind_any m V)
  clear lb hm ht hp
  generalize okJ m = y at *
  generalize bare m = x1 at *
  generalize inB m.ae m.pfx m.plen = x2 at *
  generalize okS m.sl = x3 at *
  generalize kindB m = x4 at *
  go_enter Tryz.func30, Tryz.ntmps30
  go_upto_region 1 with fail
  generalize w.alloc (.cells m.cells 29) = V at *
  have c5 := HF.out.m.cs.c5
  have c6 := HF.out.m.cs.c6
  have c7 := HF.out.m.cs.c7
  have c24 := HF.out.m.cs.c24
  cases x1
  · go_wp2_with (first | (refine st_yes (v := .agg (M.cells m)) (by rfl) rfl (run_loadM (x := .tmp 1) rfl rfl HF.out.m) ?_))
    refine (P1.out _ HF.out.i).mono ?_
    rintro r w' ⟨rfl, hb⟩
    have HM := Lib.hid (HM.out.below hb)
    have HF := Lib.hid (HF.out.call hb)
    clear hb c5 c6 c7 c24
    have c5 := HF.out.m.cs.c5
    have c6 := HF.out.m.cs.c6
    have c7 := HF.out.m.cs.c7
    have c24 := HF.out.m.cs.c24
    go_wp2_with (first | (refine st_yes (v := .agg (M.cells m)) (by rfl) rfl (run_loadM (x := .tmp 1) rfl rfl HF.out.m) ?_))
    go_ret
    exact ⟨J2.bool_eq HK.out.symm, HF.out.bel⟩
  cases x2
  · go_wp2_with (first | (refine st_yes (v := .agg (M.cells m)) (by rfl) rfl (run_loadM (x := .tmp 1) rfl rfl HF.out.m) ?_))
    refine (P1.out _ HF.out.i).mono ?_
    rintro r w' ⟨rfl, hb⟩
    have HM := Lib.hid (HM.out.below hb)
    have HF := Lib.hid (HF.out.call hb)
    clear hb c5 c6 c7 c24
    have c5 := HF.out.m.cs.c5
    have c6 := HF.out.m.cs.c6
    have c7 := HF.out.m.cs.c7
    have c24 := HF.out.m.cs.c24
    go_wp2_with (first | (refine st_yes (v := .agg (M.cells m)) (by rfl) rfl (run_loadM (x := .tmp 1) rfl rfl HF.out.m) ?_))
    refine (P2.out _ HM.out).mono ?_
    rintro r w' ⟨rfl, hb⟩
    have HM := Lib.hid (HM.out.below hb)
    have HF := Lib.hid (HF.out.call hb)
    clear hb c5 c6 c7 c24
    have c5 := HF.out.m.cs.c5
    have c6 := HF.out.m.cs.c6
    have c7 := HF.out.m.cs.c7
    have c24 := HF.out.m.cs.c24
    go_wp2_with (first | (refine st_yes (v := .agg (M.cells m)) (by rfl) rfl (run_loadM (x := .tmp 1) rfl rfl HF.out.m) ?_))
    go_ret
    exact ⟨J2.bool_eq HK.out.symm, HF.out.bel⟩
  cases x3
  · go_wp2_with (first | (refine st_yes (v := .agg (M.cells m)) (by rfl) rfl (run_loadM (x := .tmp 1) rfl rfl HF.out.m) ?_))
    refine (P1.out _ HF.out.i).mono ?_
    rintro r w' ⟨rfl, hb⟩
    have HM := Lib.hid (HM.out.below hb)
    have HF := Lib.hid (HF.out.call hb)
    clear hb c5 c6 c7 c24
    have c5 := HF.out.m.cs.c5
    have c6 := HF.out.m.cs.c6
    have c7 := HF.out.m.cs.c7
    have c24 := HF.out.m.cs.c24
    go_wp2_with (first | (refine st_yes (v := .agg (M.cells m)) (by rfl) rfl (run_loadM (x := .tmp 1) rfl rfl HF.out.m) ?_))
    refine (P2.out _ HM.out).mono ?_
    rintro r w' ⟨rfl, hb⟩
    have HM := Lib.hid (HM.out.below hb)
    have HF := Lib.hid (HF.out.call hb)
    clear hb c5 c6 c7 c24
    have c5 := HF.out.m.cs.c5
    have c6 := HF.out.m.cs.c6
    have c7 := HF.out.m.cs.c7
    have c24 := HF.out.m.cs.c24
    go_wp2_with (first | (refine st_yes (v := .agg (M.cells m)) (by rfl) rfl (run_loadM (x := .tmp 1) rfl rfl HF.out.m) ?_))
    refine (P3.out _ HF.out.i).mono ?_
    rintro r w' ⟨rfl, hb⟩
    have HM := Lib.hid (HM.out.below hb)
    have HF := Lib.hid (HF.out.call hb)
    clear hb c5 c6 c7 c24
    have c5 := HF.out.m.cs.c5
    have c6 := HF.out.m.cs.c6
    have c7 := HF.out.m.cs.c7
    have c24 := HF.out.m.cs.c24
    go_wp2_with (first | (refine st_yes (v := .agg (M.cells m)) (by rfl) rfl (run_loadM (x := .tmp 1) rfl rfl HF.out.m) ?_))
    go_ret
    exact ⟨J2.bool_eq HK.out.symm, HF.out.bel⟩
  go_wp2_with (first | (refine st_yes (v := .agg (M.cells m)) (by rfl) rfl (run_loadM (x := .tmp 1) rfl rfl HF.out.m) ?_))
  refine (P1.out _ HF.out.i).mono ?_
  rintro r w' ⟨rfl, hb⟩
  have HM := Lib.hid (HM.out.below hb)
  have HF := Lib.hid (HF.out.call hb)
  clear hb c5 c6 c7 c24
  have c5 := HF.out.m.cs.c5
  have c6 := HF.out.m.cs.c6
  have c7 := HF.out.m.cs.c7
  have c24 := HF.out.m.cs.c24
  go_wp2_with (first | (refine st_yes (v := .agg (M.cells m)) (by rfl) rfl (run_loadM (x := .tmp 1) rfl rfl HF.out.m) ?_))
  refine (P2.out _ HM.out).mono ?_
  rintro r w' ⟨rfl, hb⟩
  have HM := Lib.hid (HM.out.below hb)
  have HF := Lib.hid (HF.out.call hb)
  clear hb c5 c6 c7 c24
  have c5 := HF.out.m.cs.c5
  have c6 := HF.out.m.cs.c6
  have c7 := HF.out.m.cs.c7
  have c24 := HF.out.m.cs.c24
  go_wp2_with (first | (refine st_yes (v := .agg (M.cells m)) (by rfl) rfl (run_loadM (x := .tmp 1) rfl rfl HF.out.m) ?_))
  refine (P3.out _ HF.out.i).mono ?_
  rintro r w' ⟨rfl, hb⟩
  have HM := Lib.hid (HM.out.below hb)
  have HF := Lib.hid (HF.out.call hb)
  clear hb c5 c6 c7 c24
  have c5 := HF.out.m.cs.c5
  have c6 := HF.out.m.cs.c6
  have c7 := HF.out.m.cs.c7
  have c24 := HF.out.m.cs.c24
  go_wp2_with (first | (refine st_yes (v := .agg (M.cells m)) (by rfl) rfl (run_loadM (x := .tmp 1) rfl rfl HF.out.m) ?_))
  refine (P4.out _).mono ?_
  rintro r w' ⟨rfl, hb⟩
  have HM := Lib.hid (HM.out.below hb)
  have HF := Lib.hid (HF.out.call hb)
  clear hb c5 c6 c7 c24
  have c5 := HF.out.m.cs.c5
  have c6 := HF.out.m.cs.c6
  have c7 := HF.out.m.cs.c7
  have c24 := HF.out.m.cs.c24
  go_wp2_with (first | (refine st_yes (v := .agg (M.cells m)) (by rfl) rfl (run_loadM (x := .tmp 1) rfl rfl HF.out.m) ?_))
  go_ret
  exact ⟨J2.bool_eq HK.out.symm, HF.out.bel⟩
end Go.Proofs.YtfegdblaohhdoaaGreatDoor.Jr
namespace Go.Proofs.YtfegdblaohhdoaaGreatDoor.J3
open Go.ChangeShapes Go.WideShapes Go.ChangeAt Go.RowKit
open Go.Proofs.YtfegdblaohhdoaaGreatDoor.Ms
open Go.Proofs.YtfegdblaohhdoaaGreatDoor.Box
open Go.Proofs.YtfegdblaohhdoaaGreatDoor.S1
open Go.Proofs.YtfegdblaohhdoaaGreatDoor.Nu
open Go.Proofs.YtfegdblaohhdoaaGreatDoor.J1
open Go.Proofs.YtfegdblaohhdoaaGreatDoor.J2
open Go.Proofs.YtfegdblaohhdoaaGreatDoor.Jr
open Go.Proofs.YtfegdblaohhdoaaGreatDoor.An
open Go.Proofs.YtfegdblaohhdoaaGreatDoor.Tc
open Go.Proofs.YtfegdblaohhdoaaGreatDoor.Ow
open Go.Proofs.YtfegdblaohhdoaaGreatDoor.Oct (fitsB)
open Go.Proofs.YtfegdblaohhdoaaGreatDoor.F1 (putB putO)
open Go.Proofs.YtfegdblaohhdoaaGreatDoor.Hs (run_loadM)
open Go.Proofs.YtfegdblaohhdoaaGreatDoor.Or (st_yes)
open Go.Proofs.YtfegdblaohhdoaaGreatDoor.Bk (Bk)
set_option linter.unusedVariables false
set_option maxRecDepth 100000
set_option maxRecDepth 100000
/-- The call's own writer in block b has laid bs; what is new begins at B. -/
def Wri (B b : Nat) (bs : List UInt8) (w : World) : Prop := B ≤ b ∧ ∃ v, Bk 117 w b #[v] ∧ Own B w v bs
theorem neW : (117 : TypeId) ≠ 5 := by decide
theorem Wri.below {B b : Nat} {l : List UInt8} {w w' : World} (h : Wri B b l w) (hb : Below w.heap.size w w') : Wri B b l w' := by
  obtain ⟨h1, v, h2, h3⟩ := h
  exact ⟨h1, v, h2.below hb, h3.below hb⟩
theorem Wri.lt {B b : Nat} {l : List UInt8} {w : World} (h : Wri B b l w) : b < w.heap.size := by
  obtain ⟨h1, v, h2, h3⟩ := h
  exact h2.lt
/-- What a call on the writer leaves. -/
def Laid (B b : Nat) (bs : List UInt8) (w : World) (e : Ending) (w' : World) : Prop := e = .returned (.tuple #[]) ∧ Wri B b bs w' ∧ Below B w w' ∧ Oth b w w'
set_option maxHeartbeats 1600000 in
theorem text_any (B b : Nat) (bs : List UInt8) (s : ByteArray) (w : World) (h : Wri B b bs w) (hB : B ≤ w.heap.size) (hl : bs.length ≤ 800000) (hs : s.size ≤ 100000) :
    Calls Tryz.prog 117 #[.pointer (some ⟨b, 0, none⟩), .string s] w (Laid B b (bs ++ s.data.toList) w) := by
  obtain ⟨hBb, v, hb, hown⟩ := h
  have d0 := hb.cell 0 v rfl
  have HB := Lib.hid hb
  have HO := Lib.hid hown
  clear hb hown
  go_enter Tryz.func117, Tryz.ntmps117
  go_wp2_with (at_builtin; refine app_str rfl _ _ rfl B v bs s rfl HO.out rfl ?cL hB ?_)
  case cL => omega
  intro v' w2 hown2 hgrow hbel
  have hlt := HB.out.lt
  have hne := ob_ne HO.out HB.out neW
  have hb2 : Bk 117 w2 b #[v] := (hgrow.block b hlt (fun e => hne e.symm)).trans HB.out
  have HT := Lib.hid (Oth.grown (b := b) HO.out hgrow)
  obtain ⟨va2, vc2, rfl⟩ := own_form hown2
  have d0 := hb2.cell 0 v rfl
  have f0 := hb2.frozen 0
  have HB2 := Lib.hid hb2
  have HO2 := Lib.hid hown2
  clear hb2 hown2 hgrow HB HO hne hlt
  generalize bs ++ s.data.toList = bs2 at *
  go_wp2_with fail
  go_end0
  exact ⟨rfl, ⟨hBb, _, HB2.out.set rfl, own_set HO2.out HB2.out neW⟩, hbel.setCell (p := ⟨b, 0, none⟩) hBb _, HT.out.trans Oth.set⟩
set_option maxHeartbeats 800000 in
theorem num_any (B b : Nat) (bs : List UInt8) (v : Int) (n : Nat) (ni : Int) (hni : ni = n) (h1 : 1 ≤ n) (h7 : n ≤ 7) (w : World) (h : Wri B b bs w) (hB : B ≤ w.heap.size) (hl : bs.length ≤ 800000) :
    Calls Tryz.prog 137 #[.pointer (some ⟨b, 0, none⟩), .int .i64 v, .int .i64 ni] w (Laid B b (bs ++ layN v n) w) := by
  have P1 := Lib.hid (oput_any v n ni hni h1 h7 w)
  have HS := Lib.hid (show (⟨(layN v n).toArray⟩ : ByteArray).size ≤ 100000 from by have := layN_len v n; show (layN v n).toArray.size ≤ _; simp; omega)
  have HE := Lib.hid (show (⟨(layN v n).toArray⟩ : ByteArray).data.toList = layN v n from rfl)
  generalize (⟨(layN v n).toArray⟩ : ByteArray) = s at *
  have HW := Lib.hid h
  clear h hni
  go_enter Tryz.func137, Tryz.ntmps137
  go_wp2_with fail
  refine P1.out.mono ?_
  rintro e w1 ⟨rfl, hb⟩
  have P2 := Lib.hid (text_any B b bs s w1 (HW.out.below hb) (Nat.le_trans hB hb.size) hl HS.out)
  have HO := Lib.hid (Oth.below (b := b) hb)
  have HL := Lib.hid (hb.mono hB)
  clear hb P1
  go_wp2_with fail
  refine P2.out.mono ?_
  rintro e w2 ⟨rfl, hw, hb, ho⟩
  go_wp2_with fail
  go_end0
  exact ⟨rfl, by rw [← HE.out]; exact hw, HL.out.trans hb, HO.out.trans ho⟩
/-- What stands in the middle of laying a message's fields: the writer, the message's copy in block k. -/
structure U (B b k : Nat) (w0 W : World) (m : M) (bs : List UInt8) : Prop where
  wr : Wri B b bs W
  m : Bx W k m
  bel : Below B w0 W
  oth : Oth b w0 W
  siz : B ≤ W.heap.size
  ne : k ≠ b
section
variable {B b k : Nat} {w0 W W' : World} {m : M} {bs bs' : List UInt8}
theorem U.start (w : World) (h : Wri B b bs w) (hB : B ≤ w.heap.size) : U B b w.heap.size w (w.alloc (.cells m.cells 29)) m bs :=
  ⟨h.below (balloc (Below.refl _ w) _), Bx.new w m, (balloc (Below.refl _ w) _).mono hB, Oth.below (balloc (Below.refl _ w) _), Nat.le_trans hB (balloc (Below.refl w.heap.size w) (.cells m.cells 29)).size, by have := h.lt; omega⟩
theorem U.call (u : U B b k w0 W m bs) (hb : Below W.heap.size W W') : U B b k w0 W' m bs :=
  ⟨u.wr.below hb, u.m.below hb, u.bel.trans (hb.mono u.siz), u.oth.trans (Oth.below hb), Nat.le_trans u.siz hb.size, u.ne⟩
theorem U.lay {e : Ending} (u : U B b k w0 W m bs) (h : Laid B b bs' W e W') : U B b k w0 W' m bs' :=
  ⟨h.2.1, h.2.2.2.bx u.ne u.m, u.bel.trans h.2.2.1, u.oth.trans h.2.2.2, Nat.le_trans u.siz h.2.2.1.size, u.ne⟩
end
theorem zeros_list (n : Nat) : (⟨(List.replicate n (0 : UInt8)).toArray⟩ : ByteArray).data.toList = List.replicate n 0 := rfl
theorem U.layT {B b k : Nat} {w0 W W' : World} {m : M} {bs bs' : List UInt8} {e : Ending} {t : Int} (u : U B b k w0 W m bs) (h : e = .returned (.int .i64 t) ∧ Wri B b bs' W' ∧ Below B W W' ∧ Oth b W W') : U B b k w0 W' m bs' :=
  ⟨h.2.1, h.2.2.2.bx u.ne u.m, u.bel.trans h.2.2.1, u.oth.trans h.2.2.2, Nat.le_trans u.siz h.2.2.1.size, u.ne⟩
/-- What request leaves: the type. -/
def LaidT (B b : Nat) (t : Int) (bs : List UInt8) (w : World) (e : Ending) (w' : World) : Prop := e = .returned (.int .i64 t) ∧ Wri B b bs w' ∧ Below B w w' ∧ Oth b w w'
theorem ends9 (m : M) : [] ++ layN m.ae 1 ++ layN m.plen 1 = fld9 m := rfl
theorem ends10 (m : M) : [] ++ layN m.ae 1 ++ layN m.plen 1 ++ layN m.seq 2 ++ layN m.hops 1 ++ List.replicate 1 0 ++ m.id.data.toList = fld10 m := by simp [fld10]
set_option maxHeartbeats 6400000 in
theorem request_any (B b : Nat) (m : M) (w : World) (h : Wri B b [] w) (hB : B ≤ w.heap.size) (hk : kindB m = true) : Calls Tryz.prog 116 #[.pointer (some ⟨b, 0, none⟩), .agg m.cells] w (LaidT B b (typJ m) (fldJ m) w) := by
  have HL := Lib.hid (show ([] : List UInt8).length ≤ 700000 by decide)
  rcases kind_cases hk with k1 | ⟨k1, q⟩
  · rw [(f_12 k1).1, (f_12 k1).2]
    have HE := Lib.hid (ends9 m)
    clear hk
    have HU := Lib.hid (U.start (m := m) w h hB)
    clear h
    go_enter Tryz.func116, Tryz.ntmps116
    go_upto_region 1 with fail
    generalize w.alloc (.cells m.cells 29) = V at *
    generalize w.heap.size = k at *
    have c0 := HU.out.m.cs.c0
    have c5 := HU.out.m.cs.c5
    have c7 := HU.out.m.cs.c7
    rw [k1] at c0
    go_wp2_with fail
    refine (num_any B b _ m.ae 1 1 rfl (by omega) (by omega) _ HU.out.wr HU.out.siz (by have := HL.out; have := layN_len (m.ae) 1; omega)).mono ?_
    rintro r V' hlaid
    have HU := Lib.hid (HU.out.lay hlaid)
    obtain ⟨rfl, hlaid⟩ := hlaid
    clear hlaid
    clear c0 c5 c7
    have c0 := HU.out.m.cs.c0
    rw [k1] at c0
    have c5 := HU.out.m.cs.c5
    have c7 := HU.out.m.cs.c7
    go_wp2_with fail
    refine (num_any B b _ m.plen 1 1 rfl (by omega) (by omega) _ HU.out.wr HU.out.siz (by have := HL.out; simp only [List.length_append]; have := layN_len (m.plen) 1; have := layN_len (m.ae) 1; omega)).mono ?_
    rintro r V' hlaid
    have HU := Lib.hid (HU.out.lay hlaid)
    obtain ⟨rfl, hlaid⟩ := hlaid
    clear hlaid
    clear c0 c5 c7
    have c0 := HU.out.m.cs.c0
    rw [k1] at c0
    have c5 := HU.out.m.cs.c5
    have c7 := HU.out.m.cs.c7
    go_wp2
    go_ret
    refine ⟨rfl, ?_, HU.out.bel, HU.out.oth⟩
    have hw := HU.out.wr
    rw [HE.out] at hw
    exact hw
  · rw [(f_13 k1).1, (f_13 k1).2]
    have HE := Lib.hid (ends10 m)
    have HQ := Lib.hid q
    clear hk q
    have HU := Lib.hid (U.start (m := m) w h hB)
    clear h
    go_enter Tryz.func116, Tryz.ntmps116
    go_upto_region 1 with fail
    generalize w.alloc (.cells m.cells 29) = V at *
    generalize w.heap.size = k at *
    have c0 := HU.out.m.cs.c0
    have c5 := HU.out.m.cs.c5
    have c7 := HU.out.m.cs.c7
    have c11 := HU.out.m.cs.c11
    have c12 := HU.out.m.cs.c12
    have c16 := HU.out.m.cs.c16
    rw [k1] at c0
    go_wp2_with fail
    refine (num_any B b _ m.ae 1 1 rfl (by omega) (by omega) _ HU.out.wr HU.out.siz (by have := HL.out; have := layN_len (m.ae) 1; omega)).mono ?_
    rintro r V' hlaid
    have HU := Lib.hid (HU.out.lay hlaid)
    obtain ⟨rfl, hlaid⟩ := hlaid
    clear hlaid
    clear c0 c5 c7 c11 c12 c16
    have c0 := HU.out.m.cs.c0
    rw [k1] at c0
    have c5 := HU.out.m.cs.c5
    have c7 := HU.out.m.cs.c7
    have c11 := HU.out.m.cs.c11
    have c12 := HU.out.m.cs.c12
    have c16 := HU.out.m.cs.c16
    go_wp2_with fail
    refine (num_any B b _ m.plen 1 1 rfl (by omega) (by omega) _ HU.out.wr HU.out.siz (by have := HL.out; simp only [List.length_append]; have := layN_len (m.plen) 1; have := layN_len (m.ae) 1; omega)).mono ?_
    rintro r V' hlaid
    have HU := Lib.hid (HU.out.lay hlaid)
    obtain ⟨rfl, hlaid⟩ := hlaid
    clear hlaid
    clear c0 c5 c7 c11 c12 c16
    have c0 := HU.out.m.cs.c0
    rw [k1] at c0
    have c5 := HU.out.m.cs.c5
    have c7 := HU.out.m.cs.c7
    have c11 := HU.out.m.cs.c11
    have c12 := HU.out.m.cs.c12
    have c16 := HU.out.m.cs.c16
    go_wp2_with fail
    refine (num_any B b _ m.seq 2 2 rfl (by omega) (by omega) _ HU.out.wr HU.out.siz (by have := HL.out; simp only [List.length_append]; have := layN_len (m.seq) 2; have := layN_len (m.ae) 1; have := layN_len (m.plen) 1; omega)).mono ?_
    rintro r V' hlaid
    have HU := Lib.hid (HU.out.lay hlaid)
    obtain ⟨rfl, hlaid⟩ := hlaid
    clear hlaid
    clear c0 c5 c7 c11 c12 c16
    have c0 := HU.out.m.cs.c0
    rw [k1] at c0
    have c5 := HU.out.m.cs.c5
    have c7 := HU.out.m.cs.c7
    have c11 := HU.out.m.cs.c11
    have c12 := HU.out.m.cs.c12
    have c16 := HU.out.m.cs.c16
    go_wp2_with fail
    refine (num_any B b _ m.hops 1 1 rfl (by omega) (by omega) _ HU.out.wr HU.out.siz (by have := HL.out; simp only [List.length_append]; have := layN_len (m.hops) 1; have := layN_len (m.ae) 1; have := layN_len (m.plen) 1; have := layN_len (m.seq) 2; omega)).mono ?_
    rintro r V' hlaid
    have HU := Lib.hid (HU.out.lay hlaid)
    obtain ⟨rfl, hlaid⟩ := hlaid
    clear hlaid
    clear c0 c5 c7 c11 c12 c16
    have c0 := HU.out.m.cs.c0
    rw [k1] at c0
    have c5 := HU.out.m.cs.c5
    have c7 := HU.out.m.cs.c7
    have c11 := HU.out.m.cs.c11
    have c12 := HU.out.m.cs.c12
    have c16 := HU.out.m.cs.c16
    go_wp2_with fail
    refine (Oct.zeros_mid 1 _ (by omega)).mono ?_
    rintro r V' ⟨rfl, hb⟩
    have HU := Lib.hid (HU.out.call hb)
    clear hb
    clear c0 c5 c7 c11 c12 c16
    have c0 := HU.out.m.cs.c0
    rw [k1] at c0
    have c5 := HU.out.m.cs.c5
    have c7 := HU.out.m.cs.c7
    have c11 := HU.out.m.cs.c11
    have c12 := HU.out.m.cs.c12
    have c16 := HU.out.m.cs.c16
    go_wp2_with fail
    refine (text_any B b _ ⟨(List.replicate 1 (0 : UInt8)).toArray⟩ _ HU.out.wr HU.out.siz (by have := HL.out; simp only [List.length_append]; have := layN_len (m.ae) 1; have := layN_len (m.plen) 1; have := layN_len (m.seq) 2; have := layN_len (m.hops) 1; omega) (by decide)).mono ?_
    rintro r V' hlaid
    have HU := Lib.hid (HU.out.lay hlaid)
    obtain ⟨rfl, hlaid⟩ := hlaid
    clear hlaid
    clear c0 c5 c7 c11 c12 c16
    have c0 := HU.out.m.cs.c0
    rw [k1] at c0
    have c5 := HU.out.m.cs.c5
    have c7 := HU.out.m.cs.c7
    have c11 := HU.out.m.cs.c11
    have c12 := HU.out.m.cs.c12
    have c16 := HU.out.m.cs.c16
    rw [zeros_list] at HU
    go_wp2_with fail
    refine (text_any B b _ m.id _ HU.out.wr HU.out.siz (by have := HL.out; simp only [List.length_append, List.length_replicate]; have := layN_len (m.ae) 1; have := layN_len (m.plen) 1; have := layN_len (m.seq) 2; have := layN_len (m.hops) 1; omega) (by have := HQ.out.id; omega)).mono ?_
    rintro r V' hlaid
    have HU := Lib.hid (HU.out.lay hlaid)
    obtain ⟨rfl, hlaid⟩ := hlaid
    clear hlaid
    clear c0 c5 c7 c11 c12 c16
    have c0 := HU.out.m.cs.c0
    rw [k1] at c0
    have c5 := HU.out.m.cs.c5
    have c7 := HU.out.m.cs.c7
    have c11 := HU.out.m.cs.c11
    have c12 := HU.out.m.cs.c12
    have c16 := HU.out.m.cs.c16
    go_wp2
    go_ret
    refine ⟨rfl, ?_, HU.out.bel, HU.out.oth⟩
    have hw := HU.out.wr
    rw [HE.out] at hw
    exact hw
theorem dat_cat (m : M) : fldJ m ++ (cutP m.ae m.pfx m.plen).data.toList ++ (putS m.sl).data.toList = (datJ m).data.toList := by unfold datJ; simp
set_option maxHeartbeats 6400000 in
theorem put_any (m : M) (w : World) (hm : m.In w) (ln : m.sl.length ≤ 2000) (lb : ∀ x ∈ m.sl, x.1.size ≤ 1099511627776) (hp : m.pfx.size ≤ maxLen) (ht : Tab w) : Calls Tryz.prog 84 #[.agg m.cells] w fun e w' => e = .returned (.tuple #[.string (putJ m), .bool (okJ m)]) ∧ Below w.heap.size w w' := by
  have HF := Lib.hid (Fs.new w m hm)
  have HM := Lib.hid (ht.below (balloc (Below.refl _ w) (.cells m.cells 29)))
  have HI := Lib.hid hm
  have P1 := Lib.hid (fun V (h : m.In V) (t : Tab V) => right_any m V h lb hp t)
  have P2 := Lib.hid (fun V (h : m.In V) => S3.put_any m.sa m.sc m.sl V h.s ln lb)
  clear lb hm ln ht hp
  cases hok : okJ m
  · have HK := Lib.hid (putJ_no hok)
    rw [hok] at P1
    clear hok
    go_enter Tryz.func84, Tryz.ntmps84
    go_upto_region 1 with fail
    generalize w.alloc (.cells m.cells 29) = V at *
    go_wp2_with (first | (refine wpList_loadM (b := w.heap.size) (m := m) rfl _ rfl rfl HF.out.m ?_))
    refine (P1.out _ HF.out.i HM.out).mono ?_
    rintro r w1 ⟨rfl, hb⟩
    have HF := Lib.hid (HF.out.call hb)
    clear hb
    go_wp2
    go_ret2
    exact ⟨pair_eq HK.out.symm rfl, HF.out.bel⟩
  have HK := Lib.hid (putJ_yes hok)
  have HX := Lib.hid ((ok_iff m).1 hok).kind
  have HS := Lib.hid ((ok_iff m).1 hok).subs
  have PC := Lib.hid (fun V => cut_any m.ae m.pfx m.plen V ((ok_iff m).1 hok).pfx)
  have HC := Lib.hid (show (cutP m.ae m.pfx m.plen).size ≤ 16 from by rw [cut_size ((ok_iff m).1 hok).pfx]; exact (count_le (in_cases ((ok_iff m).1 hok).pfx).1).1)
  have HY := Lib.hid (putB_yes hok)
  have HZ := Lib.hid (show (datJ m).size ≤ 1048576 by have := dat_le hok; omega)
  have HD := Lib.hid (dat_cat m)
  have HL := Lib.hid (show (fldJ m).length ≤ 14 by rw [(fld_len hok).1]; exact (szJ_le _).1)
  have HC2 := Lib.hid (putS_le m.sl)
  rw [hok] at P1
  rw [HS.out] at P2
  clear hok
  go_enter Tryz.func84, Tryz.ntmps84
  go_upto_region 1 with fail
  generalize w.alloc (.cells m.cells 29) = V at *
  go_wp2_with (first | (refine wpList_loadM (b := w.heap.size) (m := m) rfl _ rfl rfl HF.out.m ?_))
  refine (P1.out _ HF.out.i HM.out).mono ?_
  rintro r w1 ⟨rfl, hb⟩
  have HF := Lib.hid (HF.out.call hb)
  clear hb P1 HM
  go_upto_region 4 with fail
  have bel := balloc (Below.refl w1.heap.size w1) (.cells #[.slice none 0 0] 117)
  have hlt : w.heap.size < w1.heap.size := HF.out.m.lt
  have HU := Lib.hid (show U w1.heap.size w1.heap.size w.heap.size (w1.alloc (.cells #[.slice none 0 0] 117)) (w1.alloc (.cells #[.slice none 0 0] 117)) m [] from ⟨⟨Nat.le_refl _, .slice none 0 0, Bk.Bk.new _ w1 _, Own.nil _ _⟩, HF.out.m.below bel, Below.refl _ _, Oth.refl _ _, bel.size, by omega⟩)
  have HB := Lib.hid (bcall HF.out.bel bel)
  clear bel HF
  generalize w1.alloc (.cells #[.slice none 0 0] 117) = W at *
  generalize w1.heap.size = b at *
  go_wp2_with (first | (refine wpList_loadM (b := w.heap.size) (m := m) rfl _ rfl rfl HU.out.m ?_))
  refine (request_any b b m _ HU.out.wr HU.out.siz HX.out).mono ?_
  rintro r w2 hlaid
  have HU := Lib.hid (HU.out.layT hlaid)
  obtain ⟨rfl, hlaid⟩ := hlaid
  clear hlaid HX
  have c5 := HU.out.m.cs.c5
  have c6 := HU.out.m.cs.c6
  have c7 := HU.out.m.cs.c7
  generalize cutP m.ae m.pfx m.plen = cp at *
  generalize fldJ m = fl at *
  go_wp2_with fail
  refine (PC.out _).mono ?_
  rintro r w3 ⟨rfl, hb⟩
  have HU := Lib.hid (HU.out.call hb)
  clear hb c5 c6 c7 PC
  go_wp2_with fail
  refine (text_any b b _ cp _ HU.out.wr HU.out.siz (by have := HL.out; omega) (by have := HC.out; omega)).mono ?_
  rintro r w4 hlaid
  have HU := Lib.hid (HU.out.lay hlaid)
  obtain ⟨rfl, hlaid⟩ := hlaid
  clear hlaid
  have HI2 := Lib.hid (HI.out.below (HB.out.trans (HU.out.bel.mono (Nat.le_of_lt hlt))))
  have c24 := HU.out.m.cs.c24
  go_wp2_with fail
  refine (P2.out _ HI2.out).mono ?_
  rintro r w5 ⟨rfl, hb⟩
  have HU := Lib.hid (HU.out.call hb)
  clear hb c24 P2 HI2
  generalize putS m.sl = sb at *
  go_wp2_with fail
  refine (text_any b b _ sb _ HU.out.wr HU.out.siz (by have := HL.out; have := HC.out; have e := J1.size_list cp; simp only [List.length_append, e]; omega) (by have := HC2.out; omega)).mono ?_
  rintro r w6 hlaid
  have HU := Lib.hid (HU.out.lay hlaid)
  obtain ⟨rfl, hlaid⟩ := hlaid
  clear hlaid
  rw [HD.out] at HU
  have HB := Lib.hid (HB.out.trans (HU.out.bel.mono (Nat.le_of_lt hlt)))
  obtain ⟨_, v, hb, ho⟩ := HU.out.wr
  have d0 := hb.cell 0 v rfl
  have cv := ho.conv
  rw [J1.mk_list] at cv
  have PP := Lib.hid (fun V => F6.put_any (typJ m) (datJ m) V HZ.out)
  generalize datJ m = da at *
  generalize typJ m = ty at *
  clear hb ho HU
  go_wp2_with fail
  refine (PP.out _).mono ?_
  rintro r w7 ⟨rfl, hb⟩
  have HB := Lib.hid (bcall HB.out hb)
  clear hb
  go_wp2
  go_ret2
  exact ⟨pair_eq HK.out.symm HY.out, HB.out⟩
end Go.Proofs.YtfegdblaohhdoaaGreatDoor.J3
namespace Go.Proofs.YtfegdblaohhdoaaGreatDoor.L5
open Go.ChangeShapes Go.WideShapes Go.ChangeAt Go.RowKit
open Go.Proofs.YtfegdblaohhdoaaGreatDoor.Ms
open Go.Proofs.YtfegdblaohhdoaaGreatDoor.Box
open Go.Proofs.YtfegdblaohhdoaaGreatDoor.An
open Go.Proofs.YtfegdblaohhdoaaGreatDoor.Tc
open Go.Proofs.YtfegdblaohhdoaaGreatDoor.Nu (text_eq)
open Go.Proofs.YtfegdblaohhdoaaGreatDoor.G1 (okF putF)
open Go.Proofs.YtfegdblaohhdoaaGreatDoor.J1 (okJ putJ bare)
open Go.Proofs.YtfegdblaohhdoaaGreatDoor.K1 (okU)
open Go.Proofs.YtfegdblaohhdoaaGreatDoor.Oct (fitsB fitsB_iff)
open Go.Proofs.YtfegdblaohhdoaaGreatDoor.L1
open Go.Proofs.YtfegdblaohhdoaaGreatDoor.L2
open Go.Proofs.YtfegdblaohhdoaaGreatDoor.L4
open Go.Proofs.YtfegdblaohhdoaaGreatDoor.F1 (enc1 ok1 put_ok putO)
open Go.Proofs.YtfegdblaohhdoaaGreatDoor.F6 (PutIs)
set_option linter.unusedVariables false
set_option maxRecDepth 100000
theorem no_F {m : M} (h : ¬ (7 ≤ m.kind ∧ m.kind ≤ 10)) : okF m = false := by
  cases k : okF m
  · rfl
  · exact absurd (kind_F k) h
theorem no_J {m : M} (h : ¬ (m.kind = 12 ∨ m.kind = 13)) : okJ m = false := by
  cases k : okJ m
  · rfl
  · exact absurd (kind_J k) h
theorem no_U {m : M} (h : ¬ m.kind = 11) : okU m = false := by
  cases k : okU m
  · rfl
  · exact absurd ((oku_iff m).1 k).kind h
theorem no_O {m : M} (h : ¬ m.kind = 14) : okO m = false := by
  cases k : okO m
  · rfl
  · exact absurd (o_parts k).1 h
theorem okL_f {m : M} (h : m.kind = 7 ∨ m.kind = 8 ∨ m.kind = 9 ∨ m.kind = 10) : okL m = okF m := by
  unfold okL; rw [no_J (by omega), no_U (by omega), no_O (by omega)]; simp
theorem okL_u {m : M} (h : m.kind = 11) : okL m = okU m := by
  unfold okL; rw [no_F (by omega), no_J (by omega), no_O (by omega)]; simp
theorem okL_j {m : M} (h : m.kind = 12 ∨ m.kind = 13) : okL m = okJ m := by
  unfold okL; rw [no_F (by omega), no_U (by omega), no_O (by omega)]; simp
theorem okL_o {m : M} (h : m.kind = 14) : okL m = okO m := by
  unfold okL; rw [no_F (by omega), no_J (by omega), no_U (by omega)]; simp
theorem okL_no {m : M} (h : ¬ (7 ≤ m.kind ∧ m.kind ≤ 14)) : okL m = false := by
  unfold okL; rw [no_F (by omega), no_J (by omega), no_U (by omega), no_O (by omega)]; simp
theorem fits1 (v : Int) : fitsB v 1 = true ↔ 0 ≤ v ∧ v ≤ 255 := by
  have := fitsB_iff v 1
  have h : ((Oct.pw (Int.toNat 1) : Nat) : Int) = 256 := rfl
  rw [this, h]
  omega
theorem okO_is {m : M} (h : m.kind = 14) : okO m = (bare m && (decide (11 ≤ m.typ) && (fitsB m.typ 1 && fitsB (m.data.size : Int) 1))) := by
  unfold okO
  rw [decide_eq_true h, Bool.true_and, Bool.eq_iff_iff]
  simp only [Bool.and_eq_true, decide_eq_true_eq, fits1]
  constructor <;> (rintro ⟨h1, h2⟩; exact ⟨h1, by omega⟩)
theorem mbare_any (m : M) (w : World) (hm : m.In w) : Calls Tryz.prog 31 #[.agg m.cells] w fun e w' => e = .returned (.bool (bare m)) ∧ Below w.heap.size w w' := Bare.bare_any m w hm
set_option maxHeartbeats 6400000 in
set_option maxRecDepth 100000 in
theorem right_any (m : M) (w : World) (hm : m.In w) (lb : ∀ x ∈ m.sl, x.1.size ≤ 1099511627776) (hp : m.pfx.size ≤ maxLen) (ht : Tab w) : Calls Tryz.prog 13 #[.agg m.cells] w fun e w' => e = .returned (.bool (okL m)) ∧ Below w.heap.size w w' := by
  have HF := Lib.hid (Fs.new w m hm)
  have HM := Lib.hid (ht.below (balloc (Below.refl _ w) (.cells m.cells 29)))
  have P1 := Lib.hid (fun V (h : m.In V) (y : Tab V) => G2.right_any m V h lb y)
  have P2 := Lib.hid (fun V (h : m.In V) (y : Tab V) => K2.right_any m V h lb hp y)
  have P3 := Lib.hid (fun V (h : m.In V) (y : Tab V) => Jr.right_any m V h lb hp y)
  have P4 := Lib.hid (fun V (h : m.In V) => mbare_any m V h)
  clear lb hm ht hp
  by_cases k : m.kind = 7
  · have HK := Lib.hid (okL_f (.inl k))
    generalize okF m = y at *
    generalize okL m = z at *
    go_enter Tryz.func13, Tryz.ntmps13
    go_upto_region 1 with fail
    generalize w.alloc (.cells m.cells 29) = V at *
    have c0 := HF.out.m.cs.c0
    rw [k] at c0
    clear k
    go_wp2_with (first | (refine wpList_loadM (b := w.heap.size) (m := m) rfl _ rfl rfl HF.out.m ?_))
    refine (P1.out _ HF.out.i HM.out).mono ?_
    rintro r w' ⟨rfl, hb⟩
    have HF := Lib.hid (HF.out.call hb)
    clear hb c0
    go_wp2
    go_ret
    exact ⟨bool_eq HK.out.symm, HF.out.bel⟩
  have n7 : (m.kind == 7) = false := by simpa using k
  have m7 := k
  clear k
  by_cases k : m.kind = 8
  · have HK := Lib.hid (okL_f (.inr (.inl k)))
    generalize okF m = y at *
    generalize okL m = z at *
    go_enter Tryz.func13, Tryz.ntmps13
    go_upto_region 1 with fail
    generalize w.alloc (.cells m.cells 29) = V at *
    have c0 := HF.out.m.cs.c0
    rw [k] at c0
    clear k
    go_wp2_with (first | (refine wpList_loadM (b := w.heap.size) (m := m) rfl _ rfl rfl HF.out.m ?_))
    refine (P1.out _ HF.out.i HM.out).mono ?_
    rintro r w' ⟨rfl, hb⟩
    have HF := Lib.hid (HF.out.call hb)
    clear hb c0
    go_wp2
    go_ret
    exact ⟨bool_eq HK.out.symm, HF.out.bel⟩
  have n8 : (m.kind == 8) = false := by simpa using k
  have m8 := k
  clear k
  by_cases k : m.kind = 9
  · have HK := Lib.hid (okL_f (.inr (.inr (.inl k))))
    generalize okF m = y at *
    generalize okL m = z at *
    go_enter Tryz.func13, Tryz.ntmps13
    go_upto_region 1 with fail
    generalize w.alloc (.cells m.cells 29) = V at *
    have c0 := HF.out.m.cs.c0
    rw [k] at c0
    clear k
    go_wp2_with (first | (refine wpList_loadM (b := w.heap.size) (m := m) rfl _ rfl rfl HF.out.m ?_))
    refine (P1.out _ HF.out.i HM.out).mono ?_
    rintro r w' ⟨rfl, hb⟩
    have HF := Lib.hid (HF.out.call hb)
    clear hb c0
    go_wp2
    go_ret
    exact ⟨bool_eq HK.out.symm, HF.out.bel⟩
  have n9 : (m.kind == 9) = false := by simpa using k
  have m9 := k
  clear k
  by_cases k : m.kind = 10
  · have HK := Lib.hid (okL_f (.inr (.inr (.inr k))))
    generalize okF m = y at *
    generalize okL m = z at *
    go_enter Tryz.func13, Tryz.ntmps13
    go_upto_region 1 with fail
    generalize w.alloc (.cells m.cells 29) = V at *
    have c0 := HF.out.m.cs.c0
    rw [k] at c0
    clear k
    go_wp2_with (first | (refine wpList_loadM (b := w.heap.size) (m := m) rfl _ rfl rfl HF.out.m ?_))
    refine (P1.out _ HF.out.i HM.out).mono ?_
    rintro r w' ⟨rfl, hb⟩
    have HF := Lib.hid (HF.out.call hb)
    clear hb c0
    go_wp2
    go_ret
    exact ⟨bool_eq HK.out.symm, HF.out.bel⟩
  have n10 : (m.kind == 10) = false := by simpa using k
  have m10 := k
  clear k
  by_cases k : m.kind = 11
  · have HK := Lib.hid (okL_u k)
    generalize okU m = y at *
    generalize okL m = z at *
    go_enter Tryz.func13, Tryz.ntmps13
    go_upto_region 1 with fail
    generalize w.alloc (.cells m.cells 29) = V at *
    have c0 := HF.out.m.cs.c0
    rw [k] at c0
    clear k
    go_wp2_with (first | (refine wpList_loadM (b := w.heap.size) (m := m) rfl _ rfl rfl HF.out.m ?_))
    refine (P2.out _ HF.out.i HM.out).mono ?_
    rintro r w' ⟨rfl, hb⟩
    have HF := Lib.hid (HF.out.call hb)
    clear hb c0
    go_wp2
    go_ret
    exact ⟨bool_eq HK.out.symm, HF.out.bel⟩
  have n11 : (m.kind == 11) = false := by simpa using k
  have m11 := k
  clear k
  by_cases k : m.kind = 12
  · have HK := Lib.hid (okL_j (.inl k))
    generalize okJ m = y at *
    generalize okL m = z at *
    go_enter Tryz.func13, Tryz.ntmps13
    go_upto_region 1 with fail
    generalize w.alloc (.cells m.cells 29) = V at *
    have c0 := HF.out.m.cs.c0
    rw [k] at c0
    clear k
    go_wp2_with (first | (refine wpList_loadM (b := w.heap.size) (m := m) rfl _ rfl rfl HF.out.m ?_))
    refine (P3.out _ HF.out.i HM.out).mono ?_
    rintro r w' ⟨rfl, hb⟩
    have HF := Lib.hid (HF.out.call hb)
    clear hb c0
    go_wp2
    go_ret
    exact ⟨bool_eq HK.out.symm, HF.out.bel⟩
  have n12 : (m.kind == 12) = false := by simpa using k
  have m12 := k
  clear k
  by_cases k : m.kind = 13
  · have HK := Lib.hid (okL_j (.inr k))
    generalize okJ m = y at *
    generalize okL m = z at *
    go_enter Tryz.func13, Tryz.ntmps13
    go_upto_region 1 with fail
    generalize w.alloc (.cells m.cells 29) = V at *
    have c0 := HF.out.m.cs.c0
    rw [k] at c0
    clear k
    go_wp2_with (first | (refine wpList_loadM (b := w.heap.size) (m := m) rfl _ rfl rfl HF.out.m ?_))
    refine (P3.out _ HF.out.i HM.out).mono ?_
    rintro r w' ⟨rfl, hb⟩
    have HF := Lib.hid (HF.out.call hb)
    clear hb c0
    go_wp2
    go_ret
    exact ⟨bool_eq HK.out.symm, HF.out.bel⟩
  have n13 : (m.kind == 13) = false := by simpa using k
  have m13 := k
  clear k
  by_cases k : m.kind = 14
  rotate_left
  · have n14 : (m.kind == 14) = false := by simpa using k
    have HK := Lib.hid (show okL m = false from okL_no (by omega))
    generalize okL m = z at *
    clear k m7 m8 m9 m10 m11 m12 m13
    go_enter Tryz.func13, Tryz.ntmps13
    go_upto_region 1 with fail
    generalize w.alloc (.cells m.cells 29) = V at *
    have c0 := HF.out.m.cs.c0
    go_wp2
    go_ret
    exact ⟨bool_eq HK.out.symm, HF.out.bel⟩
  have HK := Lib.hid ((okL_o k).trans (okO_is k))
  have Q1 := Lib.hid (fun V => Oct.fits_any m.typ 1 V)
  have Q2 := Lib.hid (fun V => Oct.fits_any (m.data.size : Int) 1 V)
  generalize bare m = x1 at *
  generalize fitsB m.typ 1 = x3 at *
  generalize fitsB (m.data.size : Int) 1 = x4 at *
  generalize okL m = z at *
  clear n7 n8 n9 n10 n11 n12 n13 m7 m8 m9 m10 m11 m12 m13
  cases x1
  · go_enter Tryz.func13, Tryz.ntmps13
    go_upto_region 1 with fail
    generalize w.alloc (.cells m.cells 29) = V at *
    have c0 := HF.out.m.cs.c0
    rw [k] at c0
    clear k
    go_wp2_with (first | (refine wpList_loadM (b := w.heap.size) (m := m) rfl _ rfl rfl HF.out.m ?_))
    refine (P4.out _ HF.out.i).mono ?_
    rintro r w' ⟨rfl, hb⟩
    have HF := Lib.hid (HF.out.call hb)
    clear hb c0
    have c22 := HF.out.m.cs.c22
    have c23 := HF.out.m.cs.c23
    go_wp2
    go_ret
    exact ⟨bool_eq HK.out.symm, HF.out.bel⟩
  by_cases h11 : 11 ≤ m.typ
  rotate_left
  · rw [decide_eq_false h11] at HK
    go_enter Tryz.func13, Tryz.ntmps13
    go_upto_region 1 with fail
    generalize w.alloc (.cells m.cells 29) = V at *
    have c0 := HF.out.m.cs.c0
    rw [k] at c0
    clear k
    go_wp2_with (first | (refine wpList_loadM (b := w.heap.size) (m := m) rfl _ rfl rfl HF.out.m ?_))
    refine (P4.out _ HF.out.i).mono ?_
    rintro r w' ⟨rfl, hb⟩
    have HF := Lib.hid (HF.out.call hb)
    clear hb c0
    have c22 := HF.out.m.cs.c22
    have c23 := HF.out.m.cs.c23
    go_wp2
    go_ret
    exact ⟨bool_eq HK.out.symm, HF.out.bel⟩
  rw [decide_eq_true h11] at HK
  cases x3
  · go_enter Tryz.func13, Tryz.ntmps13
    go_upto_region 1 with fail
    generalize w.alloc (.cells m.cells 29) = V at *
    have c0 := HF.out.m.cs.c0
    rw [k] at c0
    clear k
    go_wp2_with (first | (refine wpList_loadM (b := w.heap.size) (m := m) rfl _ rfl rfl HF.out.m ?_))
    refine (P4.out _ HF.out.i).mono ?_
    rintro r w' ⟨rfl, hb⟩
    have HF := Lib.hid (HF.out.call hb)
    clear hb c0
    have c22 := HF.out.m.cs.c22
    have c23 := HF.out.m.cs.c23
    go_wp2_with fail
    refine (Q1.out _).mono ?_
    rintro r w' ⟨rfl, rfl⟩
    go_wp2
    go_ret
    exact ⟨bool_eq HK.out.symm, HF.out.bel⟩
  go_enter Tryz.func13, Tryz.ntmps13
  go_upto_region 1 with fail
  generalize w.alloc (.cells m.cells 29) = V at *
  have c0 := HF.out.m.cs.c0
  rw [k] at c0
  clear k
  go_wp2_with (first | (refine wpList_loadM (b := w.heap.size) (m := m) rfl _ rfl rfl HF.out.m ?_))
  refine (P4.out _ HF.out.i).mono ?_
  rintro r w' ⟨rfl, hb⟩
  have HF := Lib.hid (HF.out.call hb)
  clear hb c0
  have c22 := HF.out.m.cs.c22
  have c23 := HF.out.m.cs.c23
  go_wp2_with fail
  refine (Q1.out _).mono ?_
  rintro r w' ⟨rfl, rfl⟩
  go_wp2_with fail
  refine (Q2.out _).mono ?_
  rintro r w' ⟨rfl, rfl⟩
  go_wp2
  go_ret
  exact ⟨bool_eq HK.out.symm, HF.out.bel⟩
set_option maxHeartbeats 6400000 in
set_option maxRecDepth 100000 in
theorem alone_any (m : M) (w : World) (hm : m.In w) (ln : m.sl.length ≤ 2000) (lb : ∀ x ∈ m.sl, x.1.size ≤ 1099511627776) (hp : m.pfx.size ≤ maxLen) (ht : Tab w) (ho : okL m = true) (h11 : ¬ m.kind = 11) : Calls Tryz.prog 45 #[.agg m.cells] w fun e w' => e = .returned (.string ⟨(enc1 (othE m)).toArray⟩) ∧ Below w.heap.size w w' := by
  have HF := Lib.hid (Fs.new w m hm)
  have HM := Lib.hid (ht.below (balloc (Below.refl _ w) (.cells m.cells 29)))
  rcases ok_not ho h11 with hF | ⟨nF, hJ⟩ | ⟨nF, nJ, hO⟩
  · have hk := kind_F hF
    have HK := Lib.hid (show (⟨(enc1 (othE m)).toArray⟩ : ByteArray) = putF m by unfold othE; rw [if_pos hF]; exact text_eq (G1.putF_ok hF).1.symm)
    have P1 := Lib.hid (fun V (h : m.In V) (y : Tab V) => G3.put_any m V h ln lb y)
    have n12 : (m.kind == 12) = false := by simp; omega
    have n13 : (m.kind == 13) = false := by simp; omega
    have n14 : (m.kind == 14) = false := by simp; omega
    clear hF hk ho h11 ln lb hp ht hm
    generalize (⟨(enc1 (othE m)).toArray⟩ : ByteArray) = z at *
    generalize putF m = u at *
    generalize okF m = y at *
    go_enter Tryz.func45, Tryz.ntmps45
    go_upto_region 2 with fail
    generalize w.alloc (.cells m.cells 29) = V at *
    have c0 := HF.out.m.cs.c0
    go_wp2_with (first | (refine wpList_loadM (b := w.heap.size) (m := m) rfl _ rfl rfl HF.out.m ?_))
    refine (P1.out _ HF.out.i HM.out).mono ?_
    rintro r w' ⟨rfl, hb⟩
    have HF := Lib.hid (HF.out.call hb)
    clear hb c0
    go_wp2
    go_ret
    exact ⟨str_eq HK.out.symm, HF.out.bel⟩
  · have HK := Lib.hid (show (⟨(enc1 (othE m)).toArray⟩ : ByteArray) = putJ m by unfold othE; rw [if_neg (by rw [nF]; decide), if_pos hJ]; exact text_eq (J1.putJ_ok hJ).1.symm)
    have P1 := Lib.hid (fun V (h : m.In V) (y : Tab V) => J3.put_any m V h ln lb hp y)
    have hk := kind_J hJ
    clear hJ nF ho h11 ln lb hp ht hm
    generalize (⟨(enc1 (othE m)).toArray⟩ : ByteArray) = z at *
    generalize putJ m = u at *
    generalize okJ m = y at *
    rcases hk with k | k
    · go_enter Tryz.func45, Tryz.ntmps45
      go_upto_region 2 with fail
      generalize w.alloc (.cells m.cells 29) = V at *
      have c0 := HF.out.m.cs.c0
      rw [k] at c0
      clear k
      go_wp2_with (first | (refine wpList_loadM (b := w.heap.size) (m := m) rfl _ rfl rfl HF.out.m ?_))
      refine (P1.out _ HF.out.i HM.out).mono ?_
      rintro r w' ⟨rfl, hb⟩
      have HF := Lib.hid (HF.out.call hb)
      clear hb c0
      go_wp2
      go_ret
      exact ⟨str_eq HK.out.symm, HF.out.bel⟩
    · go_enter Tryz.func45, Tryz.ntmps45
      go_upto_region 2 with fail
      generalize w.alloc (.cells m.cells 29) = V at *
      have c0 := HF.out.m.cs.c0
      rw [k] at c0
      clear k
      go_wp2_with (first | (refine wpList_loadM (b := w.heap.size) (m := m) rfl _ rfl rfl HF.out.m ?_))
      refine (P1.out _ HF.out.i HM.out).mono ?_
      rintro r w' ⟨rfl, hb⟩
      have HF := Lib.hid (HF.out.call hb)
      clear hb c0
      go_wp2
      go_ret
      exact ⟨str_eq HK.out.symm, HF.out.bel⟩
  · obtain ⟨k, _, o3, o4, o5⟩ := o_parts hO
    have ho1 : ok1 (m.data, m.typ) := ⟨by show 0 ≤ m.typ; omega, o4, o5, fun h0 => absurd h0 (by show ¬ m.typ = 0; omega)⟩
    have hpu := (put_ok ho1 (by show ¬ m.typ = 0; omega)).2
    have HK := Lib.hid (show (⟨(enc1 (othE m)).toArray⟩ : ByteArray) = putO m.typ m.data by unfold othE; rw [if_neg (by rw [nF]; decide), if_neg (by rw [nJ]; decide)]; exact hpu.symm)
    have P1 := Lib.hid (fun V => F6.put_any m.typ m.data V (by omega))
    unfold PutIs at P1
    clear hO nF nJ ho h11 ln lb hp ht hm ho1 hpu o3 o4 o5
    generalize (⟨(enc1 (othE m)).toArray⟩ : ByteArray) = z at *
    generalize putO m.typ m.data = u at *
    generalize F1.putB m.typ m.data = y at *
    go_enter Tryz.func45, Tryz.ntmps45
    go_upto_region 2 with fail
    generalize w.alloc (.cells m.cells 29) = V at *
    have c0 := HF.out.m.cs.c0
    have c22 := HF.out.m.cs.c22
    have c23 := HF.out.m.cs.c23
    rw [k] at c0
    clear k
    go_wp2_with fail
    refine (P1.out _).mono ?_
    rintro r w' ⟨rfl, hb⟩
    have HF := Lib.hid (HF.out.call hb)
    clear hb c0 c22 c23
    go_wp2
    go_ret
    exact ⟨str_eq HK.out.symm, HF.out.bel⟩
end Go.Proofs.YtfegdblaohhdoaaGreatDoor.L5
namespace Go.Proofs.YtfegdblaohhdoaaGreatDoor.Lu
open Go.ChangeShapes Go.WideShapes Go.ChangeAt Go.RowKit
open Go.Proofs.YtfegdblaohhdoaaGreatDoor.Ms
open Go.Proofs.YtfegdblaohhdoaaGreatDoor.Box
open Go.Proofs.YtfegdblaohhdoaaGreatDoor.An
open Go.Proofs.YtfegdblaohhdoaaGreatDoor.Tc
open Go.Proofs.YtfegdblaohhdoaaGreatDoor.J1
open Go.Proofs.YtfegdblaohhdoaaGreatDoor.K1
open Go.Proofs.YtfegdblaohhdoaaGreatDoor.Kb
open Go.Proofs.YtfegdblaohhdoaaGreatDoor.L1
open Go.Proofs.YtfegdblaohhdoaaGreatDoor.L2
open Go.Proofs.YtfegdblaohhdoaaGreatDoor.L5
open Go.Proofs.YtfegdblaohhdoaaGreatDoor.L6
open Go.Proofs.YtfegdblaohhdoaaGreatDoor.Lw
open Go.Proofs.YtfegdblaohhdoaaGreatDoor.Cx
open Go.Proofs.YtfegdblaohhdoaaGreatDoor.F1 (enc1 enc1_len encT)
open Go.Proofs.YtfegdblaohhdoaaGreatDoor.Bk (Bk alloc_size run_loadK loadVarK)
open Go.Proofs.YtfegdblaohhdoaaGreatDoor.Js (Lst bs_one ex_bs cells_new infoT rowT catJ flat)
open Go.Proofs.YtfegdblaohhdoaaGreatDoor.Hs
open Go.Proofs.YtfegdblaohhdoaaGreatDoor.Hy
open Go.Proofs.YtfegdblaohhdoaaGreatDoor.Or (st_yes)
set_option linter.unusedVariables false
set_option maxRecDepth 100000
/-- A list of texts shares no block with a struct. -/
theorem own_bk {B g : Nat} {w : World} {v : Value} {l : List ByteArray} {cs : Array Value} (h : Lst B w v l) (hg : Bk 25 w g cs) : v.ownBlock ≠ some g := by
  intro e
  rcases h.2 with ⟨hv, _⟩ | ⟨k, cap, cur, hv, _, hk, _⟩
  · rw [hv] at e; cases e
  · rw [hv] at e
    injection e with e
    have e : k = g := e
    subst e
    have hg : w.heap[k]? = some (.cells cs 25 (0, 0)) := hg
    rw [hk] at hg
    injection hg with hg
    injection hg with _ h1
    exact absurd h1 (by decide)
theorem lst_off {B : Nat} {w : World} {v : Value} {l : List ByteArray} (h : Lst B w v l) {p : Addr} (hg : v.ownBlock ≠ some p.block) (u : Value) : Lst B (w.setCell p u) v l := by
  refine ⟨h.1, ?_⟩
  rcases h.2 with h | ⟨k, cap, cur, a, b, c, d⟩
  · exact .inl h
  · refine .inr ⟨k, cap, cur, a, b, (heap_setCell_other w p k u (fun e => hg ?_)).trans c, d⟩
    rw [a, ← e]; rfl
/-- append(v, x), behind the making of the list of x alone: no block but the list's own is changed. -/
theorem app_two {ops : Array Oper} {rest : List Oper} {o : Oper} {a : Act} {w : World} {Q : Exit → Act → World → Prop} (hgd : o.guard = none) (s x : Operand)
    (ho : o.op = .call { callee := .builtin .append, args := #[s, x], argTypes := #[48, 48] }) (B : Nat) (v : Value) (l : List ByteArray) (m : ByteArray) (g c : Nat)
    (hs : a.eval s = v) (hown : Lst B w v l) (hx : a.eval x = .slice (some ⟨g, 0, none⟩) 1 c) (hm : ∀ j u, ([Value.string m])[j]? = some u → w.cell? ((⟨g, 0, none⟩ : Addr).add j) = some u)
    (hl : l.length ≤ 100000) (hB : B ≤ w.heap.size)
    (h : ∀ v' w', Lst B w' v' (l ++ [m]) → Below B w w' → (∀ k cs, Bk 25 w k cs → Bk 25 w' k cs) → w.heap.size ≤ w'.heap.size → wpList Tryz.prog ops Q rest (a.put o.dst v') w') : wpList Tryz.prog ops Q (o :: rest) a w := by
  obtain ⟨i0, hi, hz, hsz, hby⟩ := infoT
  refine wpList_append_own w hgd s x 48 ho B 9 i0 (.string ByteArray.empty) 1 i0.bytes Tryz.underlying48 hi hz hsz rfl rfl (by decide) v l.length (rowT l) hs hown ⟨g, 0, none⟩ 1 c [.string m] hx rfl hm ?_ (by unfold maxLen; omega) ?_ hB ?_
  · intro u hu
    rw [List.mem_singleton] at hu
    rw [hu]; rfl
  · have : (l.length + 1) * i0.bytes ≤ 100001 * 4096 := Nat.mul_le_mul (by omega) hby
    omega
  · intro v' w' h2 h3 _
    refine h v' w' ?_ ((Below.refl B w).grown h3 hB (fun k hk => (World.ownsRow.lt hown k hk).1)) (fun k cs hk => (h3.block k hk.lt (fun e => own_bk hown hk e.symm)).trans hk) h3.size
    unfold Lst
    have e : rowT (l ++ [m]) = rowT l ++ [.string m] := by simp [rowT]
    rw [e, List.length_append]
    exact h2
/-- What update answers, what tlvs does. -/
def updP (c : Kx) (m : M) : List ByteArray × Kx × Int := if badC c m = true then ([], c, 9) else (elB (elsL c m), ctxL c m, 0)
def tlvP (c : Kx) (m : M) : List ByteArray × Kx × Int := if okL m = true then updP c m else ([], c, 1)
theorem AnsW.said {p : List ByteArray × Kx × Int} {ls : List ByteArray} {cf : Kx} {er : Int} {w : World} {e : Ending} {w' : World} (h : AnsW p w e w') (hp : p = (ls, cf, er)) :
    ∃ a k, e = .returned (.tuple #[.slice a ls.length k, .agg cf.cells, .int .i64 er]) ∧ Lst w.heap.size w' (.slice a ls.length k) ls ∧ Below w.heap.size w w' := by
  subst hp; exact h
theorem way_len (c : Kx) (m : M) : (elB (wayE c m)).length ≤ 2 := by
  rw [elB_len]; unfold wayE
  split
  · exact Nat.zero_le _
  · rw [List.length_append]; split <;> split <;> simp
set_option maxHeartbeats 25600000 in
set_option maxRecDepth 100000 in
theorem update_any (c : Kx) (m : M) (w : World) (hm : m.In w) (ln : m.sl.length ≤ 2000) (lb : ∀ x ∈ m.sl, x.1.size ≤ 1099511627776) (hc : okC c = true) (h : okU m = true) : Calls Tryz.prog 44 #[.agg c.cells, .agg m.cells] w (AnsW (updP c m) w) := by
  have o := (oku_iff m).1 h
  obtain ⟨a0, a1, _, _⟩ := len_range (in_cases o.pfx).1
  cases hb : badC c m
  rotate_left
  · have HY := Lib.hid (show updP c m = ([], c, 9) by unfold updP; rw [hb, if_pos rfl])
    have PW := Lib.hid (fun V (y : m.In V) => (way_any c m V y hc h).mono (fun e w' x => AnsW.said (ls := []) (cf := c) (er := 9) x (by unfold wayP; rw [hb, if_pos rfl])))
    clear hb hc h o a0 a1 ln lb
    go_enter Tryz.func44, Tryz.ntmps44
    go_upto_region 1 with fail
    change Code.wp _ _ _ _ (((w.alloc (.cells c.cells 25)).alloc (.cells m.cells 29)).alloc (.cells Kx.zero.cells 25))
    have D := Lib.hid ((Us.start w c m hm).call (balloc (Below.refl _ _) (.cells Kx.zero.cells 25)))
    have R0 := Lib.hid (res_new w c m)
    clear hm
    generalize ((w.alloc (.cells c.cells 25)).alloc (.cells m.cells 29)).alloc (.cells Kx.zero.cells 25) = V at *
    go_wp2_with (first | (refine wpList_loadX (b := w.heap.size) (m := c) rfl _ rfl rfl D.out.s0 ?_) | (refine wpList_loadM (b := w.heap.size + 1) (m := m) rfl _ rfl rfl D.out.m0 ?_))
    refine (PW.out _ D.out.i).mono ?_
    rintro r w1 ⟨qa, qk, rfl, hl, hb⟩
    have D := Lib.hid (D.out.call hb)
    have R0 := Lib.hid (R0.out.below hb)
    clear hl hb PW
    go_upto_region 2 with (refine wpList_storeX (b := w1.heap.size) (m := Kx.zero) (m' := c) rfl _ _ rfl rfl rfl (Bk.Bk.new 25 w1 Kx.zero.cells) ?_)
    change Code.wp _ _ _ _ ((w1.alloc (.cells Kx.zero.cells 25)).setRow w1.heap.size (Kx.cells c))
    rw [World.setRow_alloc_new]
    have bel := balloc (Below.refl w1.heap.size w1) (.cells (Kx.cells c) 25)
    have D := Lib.hid (D.out.call bel)
    have S1 := Lib.hid (Bk.Bk.new 25 w1 (Kx.cells c))
    have R0 := Lib.hid (R0.out.below bel)
    clear bel S1
    generalize w1.alloc (.cells (Kx.cells c) 25) = V at *
    go_upto_region 3 with fail
    have R0 := Lib.hid (show Bk 25 V.drew (w.heap.size + 1 + 1) Kx.zero.cells from R0.out)
    have HB := Lib.hid (show Below w.heap.size w V.drew from D.out.bel.drew)
    refine wp_region_held_drew (S := fun X => Bk 25 X w.heap.size (Kx.cells c)) (by kernel_rfl) (D.out.s0) (fun hS => ?_)
    clear D
    generalize V.drew = Z0 at *
    refine H.tk (i := 0) (v := .agg (Kx.cells c)) ?h0x1u1 hS ?_
    case h0x1u1 => exact (fun w hw => run_loadK shX (x := .tmp 2) rfl rfl hw rfl)
    try simp only [Act.put, List.setIfInBounds_toArray, List.set_cons_zero, List.set_cons_succ]
    refine H.tk (i := 1) (v := .int .i64 9) ?h1x2u1 hS ?_
    case h1x2u1 => exact (fun w hw => by go_simp)
    try simp only [Act.put, List.setIfInBounds_toArray, List.set_cons_zero, List.set_cons_succ]
    refine H.tk (i := 2) (v := (Value.slice none 0 0)) (fun w _ => rfl) hS ?_
    try simp only [Act.put, List.setIfInBounds_toArray, List.set_cons_zero, List.set_cons_succ]
    refine H.one (i := 3) (by simp only [List.getElem?_toArray, List.getElem?_cons_succ, List.getElem?_cons_zero]; rfl) (by kernel_rfl) (by kernel_rfl) (fun K hK => ?_)
    refine wp_store_row 25 _ _ rfl (w.heap.size + 1 + 1) (Kx.cells c) rfl rfl 25 Kx.zero.cells R0.out infoX rfl (oneX _) ?_
    refine hK.out _ _ (hS.row (by omega) _) ?_
    clear hK K
    have hS := (show Bk 25 (Z0.setRow (w.heap.size + 1 + 1) (Kx.cells c)) w.heap.size (Kx.cells c) from hS.row (by omega) _)
    try simp only [Act.put]
    refine H.tk (i := 4) (v := ?v4x4u1) ?h4x4u1 hS ?_
    case h4x4u1 => (intro w hw; go_simp; first | done | (with_reducible rfl))
    try simp only [Act.put, List.setIfInBounds_toArray, List.set_cons_zero, List.set_cons_succ]
    refine wpAnyH_done (by kernel_rfl) ?_ _
    go_wp2_with fail
    exact bodyPost_ret (v := .tuple #[.slice none 0 0, .agg (Kx.cells c), .int .i64 9]) (results_mid (ty := 25) rfl _ _ (w.heap.size + 1 + 1) (.agg (Kx.cells c)) (.slice none 0 0) rfl rfl (loadVarK shX (R0.out.put (Kx.cells c)) rfl) (.int .i64 9) rfl) rfl (AnsW.no HY.out (Box.below_setRow HB.out (by omega) _))
  have HLN := Lib.hid (way_len c m)
  have PW := Lib.hid (fun V (y : m.In V) => (way_any c m V y hc h).mono (fun e w' x => AnsW.said (ls := elB (wayE c m)) (cf := wayC c m) (er := 0) x (by unfold wayP; rw [hb, if_neg (by decide)])))
  have PU := Lib.hid (fun V (y : m.In V) => upd_any c m V y ln lb hc h)
  have hy : updP c m = (elB (wayE c m) ++ [⟨(enc1 (updD m (omN c m), 8)).toArray⟩], knowP (wayC c m) m, 0) := by
    unfold updP elsL ctxL
    rw [hb, if_neg (by decide), if_pos o.kind, if_pos o.kind, elB_app]
    rfl
  unfold knowP at hy
  obtain ⟨k, hk⟩ : ∃ k : Nat, m.ae = k := ⟨m.ae.toNat, by omega⟩
  have hk4 : k < 4 := by omega
  clear hb hc h o a0 a1 ln lb
  generalize (⟨(enc1 (updD m (omN c m), 8)).toArray⟩ : ByteArray) = x at *
  generalize elB (wayE c m) = ls at *
  generalize wayC c m = cw at *
  by_cases h0 : m.ae = 0
  · rw [if_pos h0] at hy
    have e0 : (m.ae == 0) = true := by simpa using h0
    have HY := Lib.hid hy
    have HK := Lib.hid hk
    clear hy hk h0
    go_enter Tryz.func44, Tryz.ntmps44
    go_upto_region 1 with fail
    change Code.wp _ _ _ _ (((w.alloc (.cells c.cells 25)).alloc (.cells m.cells 29)).alloc (.cells Kx.zero.cells 25))
    have D := Lib.hid ((Us.start w c m hm).call (balloc (Below.refl _ _) (.cells Kx.zero.cells 25)))
    have R0 := Lib.hid (res_new w c m)
    clear hm
    generalize ((w.alloc (.cells c.cells 25)).alloc (.cells m.cells 29)).alloc (.cells Kx.zero.cells 25) = V at *
    have hzV : w.heap.size + 1 + 1 + 1 ≤ V.heap.size := R0.out.lt
    go_wp2_with (first | (refine wpList_loadX (b := w.heap.size) (m := c) rfl _ rfl rfl D.out.s0 ?_) | (refine wpList_loadM (b := w.heap.size + 1) (m := m) rfl _ rfl rfl D.out.m0 ?_))
    refine (PW.out _ D.out.i).mono ?_
    rintro r w1 ⟨qa, qk, rfl, hl, hb⟩
    have D := Lib.hid (D.out.call hb)
    have R0 := Lib.hid (R0.out.below hb)
    have hz1 := hb.size
    have HL := Lib.hid (Lst.mono hl hzV)
    clear hl hb PW
    go_upto_region 2 with (refine wpList_storeX (b := w1.heap.size) (m := Kx.zero) (m' := cw) rfl _ _ rfl rfl rfl (Bk.Bk.new 25 w1 Kx.zero.cells) ?_)
    change Code.wp _ _ _ _ ((w1.alloc (.cells Kx.zero.cells 25)).setRow w1.heap.size (Kx.cells cw))
    rw [World.setRow_alloc_new]
    have bel := balloc (Below.refl w1.heap.size w1) (.cells (Kx.cells cw) 25)
    have D := Lib.hid (D.out.call bel)
    have S1 := Lib.hid (Bk.Bk.new 25 w1 (Kx.cells cw))
    have R0 := Lib.hid (R0.out.below bel)
    have HL := Lib.hid (HL.out.below bel)
    have hz2 := bel.size
    have hgz : w.heap.size + 1 + 1 < w1.heap.size := by omega
    clear bel
    generalize w1.alloc (.cells (Kx.cells cw) 25) = V2 at *
    generalize w1.heap.size = g at *
    have hzg := S1.out.lt
    go_wp2_with (first | (refine wpList_loadX (b := w.heap.size) (m := c) rfl _ rfl rfl D.out.s0 ?_) | (refine wpList_loadM (b := w.heap.size + 1) (m := m) rfl _ rfl rfl D.out.m0 ?_))
    refine (PU.out _ D.out.i).mono ?_
    rintro r w3 ⟨rfl, hb⟩
    have D := Lib.hid (D.out.call hb)
    have R0 := Lib.hid (R0.out.below hb)
    have S1 := Lib.hid (S1.out.below hb)
    have HL := Lib.hid (HL.out.below hb)
    have hz3 := hb.size
    clear hb PU
    have bel := balloc (Below.refl w3.heap.size w3) (.cells #[.string x] 9)
    have D := Lib.hid (D.out.call bel)
    have R0 := Lib.hid (R0.out.below bel)
    have S1 := Lib.hid (S1.out.below bel)
    have HL := Lib.hid (HL.out.below bel)
    have hz4 := bel.size
    clear bel
    go_upto_region 5 with (first | (refine bs_one rfl _ rfl (s := x) rfl ?_) | (at_builtin; refine app_two rfl _ _ rfl (w.heap.size + 1 + 1 + 1) _ ls x w3.heap.size 1 rfl HL.out rfl (cells_new x w3) ?cl ?cb ?_))
    case cl => have := HLN.out; omega
    case cb => omega
    intro v' w4 hl hb hs hz
    have D := Lib.hid (D.out.under hb (by omega))
    have R0 := Lib.hid (R0.out.under hb (by omega))
    have S1 := Lib.hid (hs _ _ S1.out)
    obtain ⟨l2, hl2⟩ : ∃ l, l = ls ++ [x] := ⟨_, rfl⟩
    rw [← hl2] at hl
    have HQ := Lib.hid hl2
    obtain ⟨qa, qk, rfl⟩ := hl.slice
    have HL := Lib.hid hl
    clear hl hb hs hz hl2 hz1 hz2 hz3 hz4 hzV hzg
    have c5 := D.out.m0.cs.c5
    go_upto_region 7 with fail
    clear c5 e0
    generalize w4 = V at *
    have HY := Lib.hid (show updP c m = (l2, cw, 0) by rw [HY.out, HQ.out])
    have R0 := Lib.hid (show Bk 25 V.drew (w.heap.size + 1 + 1) Kx.zero.cells from R0.out)
    have HB := Lib.hid (show Below w.heap.size w V.drew from D.out.bel.drew)
    have HL := Lib.hid (HL.out.below (Below.refl _ V).drew)
    refine wp_region_held_drew (S := fun X => Bk 25 X g (Kx.cells cw)) (by kernel_rfl) (S1.out) (fun hS => ?_)
    clear D
    generalize V.drew = Z0 at *
    refine H.tk (i := 0) (v := .slice qa l2.length qk) ?h0x1u2 hS ?_
    case h0x1u2 => exact (fun w hw => by go_simp)
    try simp only [Act.put, List.setIfInBounds_toArray, List.set_cons_zero, List.set_cons_succ]
    refine H.tk (i := 1) (v := .agg (Kx.cells cw)) ?h1x2u2 hS ?_
    case h1x2u2 => exact (fun w hw => run_loadK shX (x := .tmp 8) rfl rfl hw rfl)
    try simp only [Act.put, List.setIfInBounds_toArray, List.set_cons_zero, List.set_cons_succ]
    refine H.tk (i := 2) (v := ?v2x3u2) ?h2x3u2 hS ?_
    case h2x3u2 => (intro w hw; go_simp; first | done | (with_reducible rfl))
    try simp only [Act.put, List.setIfInBounds_toArray, List.set_cons_zero, List.set_cons_succ]
    refine H.one (i := 3) (by simp only [List.getElem?_toArray, List.getElem?_cons_succ, List.getElem?_cons_zero]; rfl) (by kernel_rfl) (by kernel_rfl) (fun K hK => ?_)
    refine wp_store_row 25 _ _ rfl (w.heap.size + 1 + 1) (Kx.cells cw) rfl rfl 25 Kx.zero.cells R0.out infoX rfl (oneX _) ?_
    refine hK.out _ _ (hS.row (by omega) _) ?_
    clear hK K
    have hS := (show Bk 25 (Z0.setRow (w.heap.size + 1 + 1) (Kx.cells cw)) g (Kx.cells cw) from hS.row (by omega) _)
    try simp only [Act.put]
    refine H.tk (i := 4) (v := (Value.int IntKind.i64 0)) (fun w _ => rfl) hS ?_
    try simp only [Act.put, List.setIfInBounds_toArray, List.set_cons_zero, List.set_cons_succ]
    refine wpAnyH_done (by kernel_rfl) ?_ _
    go_wp2_with fail
    exact bodyPost_ret (v := .tuple #[.slice qa l2.length qk, .agg (Kx.cells cw), .int .i64 0]) (results_mid (ty := 25) rfl _ _ (w.heap.size + 1 + 1) (.agg (Kx.cells cw)) (.slice qa l2.length qk) rfl rfl (loadVarK shX (R0.out.put (Kx.cells cw)) rfl) (.int .i64 0) rfl) rfl (by rw [HY.out]; exact ⟨qa, qk, rfl, (HL.out.under (by omega) _).mono (by omega), Box.below_setRow HB.out (by omega) _⟩)
  rw [if_neg h0] at hy
  have e0 : (m.ae == 0) = false := by simpa using h0
  have HY := Lib.hid hy
  have HK := Lib.hid hk
  clear hy hk h0
  go_enter Tryz.func44, Tryz.ntmps44
  go_upto_region 1 with fail
  change Code.wp _ _ _ _ (((w.alloc (.cells c.cells 25)).alloc (.cells m.cells 29)).alloc (.cells Kx.zero.cells 25))
  have D := Lib.hid ((Us.start w c m hm).call (balloc (Below.refl _ _) (.cells Kx.zero.cells 25)))
  have R0 := Lib.hid (res_new w c m)
  clear hm
  generalize ((w.alloc (.cells c.cells 25)).alloc (.cells m.cells 29)).alloc (.cells Kx.zero.cells 25) = V at *
  have hzV : w.heap.size + 1 + 1 + 1 ≤ V.heap.size := R0.out.lt
  go_wp2_with (first | (refine wpList_loadX (b := w.heap.size) (m := c) rfl _ rfl rfl D.out.s0 ?_) | (refine wpList_loadM (b := w.heap.size + 1) (m := m) rfl _ rfl rfl D.out.m0 ?_))
  refine (PW.out _ D.out.i).mono ?_
  rintro r w1 ⟨qa, qk, rfl, hl, hb⟩
  have D := Lib.hid (D.out.call hb)
  have R0 := Lib.hid (R0.out.below hb)
  have hz1 := hb.size
  have HL := Lib.hid (Lst.mono hl hzV)
  clear hl hb PW
  go_upto_region 2 with (refine wpList_storeX (b := w1.heap.size) (m := Kx.zero) (m' := cw) rfl _ _ rfl rfl rfl (Bk.Bk.new 25 w1 Kx.zero.cells) ?_)
  change Code.wp _ _ _ _ ((w1.alloc (.cells Kx.zero.cells 25)).setRow w1.heap.size (Kx.cells cw))
  rw [World.setRow_alloc_new]
  have bel := balloc (Below.refl w1.heap.size w1) (.cells (Kx.cells cw) 25)
  have D := Lib.hid (D.out.call bel)
  have S1 := Lib.hid (Bk.Bk.new 25 w1 (Kx.cells cw))
  have R0 := Lib.hid (R0.out.below bel)
  have HL := Lib.hid (HL.out.below bel)
  have hz2 := bel.size
  have hgz : w.heap.size + 1 + 1 < w1.heap.size := by omega
  clear bel
  generalize w1.alloc (.cells (Kx.cells cw) 25) = V2 at *
  generalize w1.heap.size = g at *
  have hzg := S1.out.lt
  go_wp2_with (first | (refine wpList_loadX (b := w.heap.size) (m := c) rfl _ rfl rfl D.out.s0 ?_) | (refine wpList_loadM (b := w.heap.size + 1) (m := m) rfl _ rfl rfl D.out.m0 ?_))
  refine (PU.out _ D.out.i).mono ?_
  rintro r w3 ⟨rfl, hb⟩
  have D := Lib.hid (D.out.call hb)
  have R0 := Lib.hid (R0.out.below hb)
  have S1 := Lib.hid (S1.out.below hb)
  have HL := Lib.hid (HL.out.below hb)
  have hz3 := hb.size
  clear hb PU
  have bel := balloc (Below.refl w3.heap.size w3) (.cells #[.string x] 9)
  have D := Lib.hid (D.out.call bel)
  have R0 := Lib.hid (R0.out.below bel)
  have S1 := Lib.hid (S1.out.below bel)
  have HL := Lib.hid (HL.out.below bel)
  have hz4 := bel.size
  clear bel
  go_upto_region 5 with (first | (refine bs_one rfl _ rfl (s := x) rfl ?_) | (at_builtin; refine app_two rfl _ _ rfl (w.heap.size + 1 + 1 + 1) _ ls x w3.heap.size 1 rfl HL.out rfl (cells_new x w3) ?cl ?cb ?_))
  case cl => have := HLN.out; omega
  case cb => omega
  intro v' w4 hl hb hs hz
  have D := Lib.hid (D.out.under hb (by omega))
  have R0 := Lib.hid (R0.out.under hb (by omega))
  have S1 := Lib.hid (hs _ _ S1.out)
  obtain ⟨l2, hl2⟩ : ∃ l, l = ls ++ [x] := ⟨_, rfl⟩
  rw [← hl2] at hl
  have HQ := Lib.hid hl2
  obtain ⟨qa, qk, rfl⟩ := hl.slice
  have HL := Lib.hid hl
  clear hl hb hs hz hl2 hz1 hz2 hz3 hz4 hzV hzg
  have c5 := D.out.m0.cs.c5
  have c6 := D.out.m0.cs.c6
  have d := pf_at S1.out hk4
  have fd := S1.out.frozen k
  rw [HK.out] at c5 e0
  go_upto_region 7 with (first | (refine st_yes (v := .pointer (some ⟨g, k, none⟩)) (by rfl) rfl (ex_index rfl rfl rfl (index4 g k hk4 _)) ?_))
  have hob := own_bk HL.out S1.out
  have XB := D.out.bel.setCell (p := ⟨g, k, none⟩) (by show w.heap.size ≤ g; omega) (.string m.pfx)
  have D := Lib.hid (show Us w c m (w4.setCell ⟨g, k, none⟩ (.string m.pfx)) from ⟨D.out.s0.off (p := ⟨g, k, none⟩) (by show w.heap.size ≠ g; omega) _, D.out.m0.off (p := ⟨g, k, none⟩) (by show w.heap.size + 1 ≠ g; omega) _, D.out.i0, XB⟩)
  have R0 := Lib.hid (R0.out.off (p := ⟨g, k, none⟩) (by show w.heap.size + 1 + 1 ≠ g; omega) (.string m.pfx))
  have HL := Lib.hid (lst_off HL.out (p := ⟨g, k, none⟩) hob (.string m.pfx))
  have S1 := Lib.hid (S1.out.set (i := k) (v := .string m.pfx) (cs' := Kx.cells (cw.setP k m.pfx)) (setP_cs _ _ hk4))
  clear hob XB c5 c6 d fd e0
  generalize w4.setCell ⟨g, k, none⟩ (.string m.pfx) = V at *
  have HY := Lib.hid (show updP c m = (l2, cw.setP k m.pfx, 0) by rw [HY.out, HQ.out, HK.out])
  have R0 := Lib.hid (show Bk 25 V.drew (w.heap.size + 1 + 1) Kx.zero.cells from R0.out)
  have HB := Lib.hid (show Below w.heap.size w V.drew from D.out.bel.drew)
  have HL := Lib.hid (HL.out.below (Below.refl _ V).drew)
  refine wp_region_held_drew (S := fun X => Bk 25 X g (Kx.cells (cw.setP k m.pfx))) (by kernel_rfl) (S1.out) (fun hS => ?_)
  clear D
  generalize V.drew = Z0 at *
  refine H.tk (i := 0) (v := .slice qa l2.length qk) ?h0x1u3 hS ?_
  case h0x1u3 => exact (fun w hw => by go_simp)
  try simp only [Act.put, List.setIfInBounds_toArray, List.set_cons_zero, List.set_cons_succ]
  refine H.tk (i := 1) (v := .agg (Kx.cells (cw.setP k m.pfx))) ?h1x2u3 hS ?_
  case h1x2u3 => exact (fun w hw => run_loadK shX (x := .tmp 8) rfl rfl hw rfl)
  try simp only [Act.put, List.setIfInBounds_toArray, List.set_cons_zero, List.set_cons_succ]
  refine H.tk (i := 2) (v := ?v2x3u3) ?h2x3u3 hS ?_
  case h2x3u3 => (intro w hw; go_simp; first | done | (with_reducible rfl))
  try simp only [Act.put, List.setIfInBounds_toArray, List.set_cons_zero, List.set_cons_succ]
  refine H.one (i := 3) (by simp only [List.getElem?_toArray, List.getElem?_cons_succ, List.getElem?_cons_zero]; rfl) (by kernel_rfl) (by kernel_rfl) (fun K hK => ?_)
  refine wp_store_row 25 _ _ rfl (w.heap.size + 1 + 1) (Kx.cells (cw.setP k m.pfx)) rfl rfl 25 Kx.zero.cells R0.out infoX rfl (oneX _) ?_
  refine hK.out _ _ (hS.row (by omega) _) ?_
  clear hK K
  have hS := (show Bk 25 (Z0.setRow (w.heap.size + 1 + 1) (Kx.cells (cw.setP k m.pfx))) g (Kx.cells (cw.setP k m.pfx)) from hS.row (by omega) _)
  try simp only [Act.put]
  refine H.tk (i := 4) (v := (Value.int IntKind.i64 0)) (fun w _ => rfl) hS ?_
  try simp only [Act.put, List.setIfInBounds_toArray, List.set_cons_zero, List.set_cons_succ]
  refine wpAnyH_done (by kernel_rfl) ?_ _
  go_wp2_with fail
  exact bodyPost_ret (v := .tuple #[.slice qa l2.length qk, .agg (Kx.cells (cw.setP k m.pfx)), .int .i64 0]) (results_mid (ty := 25) rfl _ _ (w.heap.size + 1 + 1) (.agg (Kx.cells (cw.setP k m.pfx))) (.slice qa l2.length qk) rfl rfl (loadVarK shX (R0.out.put (Kx.cells (cw.setP k m.pfx))) rfl) (.int .i64 0) rfl) rfl (by rw [HY.out]; exact ⟨qa, qk, rfl, (HL.out.under (by omega) _).mono (by omega), Box.below_setRow HB.out (by omega) _⟩)
end Go.Proofs.YtfegdblaohhdoaaGreatDoor.Lu
