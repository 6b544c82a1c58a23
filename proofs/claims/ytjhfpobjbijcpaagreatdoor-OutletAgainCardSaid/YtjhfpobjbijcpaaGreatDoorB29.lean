/-
  The program's calls on the writer: bytes, numbers, the fields of each kind; Put. Conditions: bytes of the call's own; the message's lists stand in the world, and aren't long; the variable has what it is laid with.
  Whether a message may be: the program's answer and the document's. Conditions: the message's lists stand in the world, and aren't long; the variable has what it is laid with.
-/
import Derived.Test.YtjhfpobjbijcpaaGreatDoorB20
import Derived.Test.YtjhfpobjbijcpaaGreatDoorB22
import Derived.Test.YtjhfpobjbijcpaaGreatDoorB24
import Derived.Test.YtjhfpobjbijcpaaGreatDoorB26
import Derived.Test.YtjhfpobjbijcpaaGreatDoorB28
namespace Go.Proofs.YtjhfpobjbijcpaaGreatDoor.G3
open Go.ChangeShapes Go.WideShapes Go.ChangeAt Go.RowKit
open Go.Proofs.YtjhfpobjbijcpaaGreatDoor.Ms
open Go.Proofs.YtjhfpobjbijcpaaGreatDoor.Box
open Go.Proofs.YtjhfpobjbijcpaaGreatDoor.S1
open Go.Proofs.YtjhfpobjbijcpaaGreatDoor.Nu
open Go.Proofs.YtjhfpobjbijcpaaGreatDoor.G1
open Go.Proofs.YtjhfpobjbijcpaaGreatDoor.G2
open Go.Proofs.YtjhfpobjbijcpaaGreatDoor.An
open Go.Proofs.YtjhfpobjbijcpaaGreatDoor.Tc
open Go.Proofs.YtjhfpobjbijcpaaGreatDoor.Ow
open Go.Proofs.YtjhfpobjbijcpaaGreatDoor.Oct (fitsB)
open Go.Proofs.YtjhfpobjbijcpaaGreatDoor.F1 (putB putO)
open Go.Proofs.YtjhfpobjbijcpaaGreatDoor.Hs (run_loadM)
open Go.Proofs.YtjhfpobjbijcpaaGreatDoor.Or (st_yes)
open Go.Proofs.YtjhfpobjbijcpaaGreatDoor.Bk (Bk)
set_option linter.unusedVariables false
set_option maxRecDepth 100000
set_option maxRecDepth 100000
/-- The call's own writer in block b has laid bs; what is new begins at B. -/
def Wri (B b : Nat) (bs : List UInt8) (w : World) : Prop := B ≤ b ∧ ∃ v, Bk 134 w b #[v] ∧ Own B w v bs
theorem neW : (134 : TypeId) ≠ 5 := by decide
theorem Wri.below {B b : Nat} {l : List UInt8} {w w' : World} (h : Wri B b l w) (hb : Below w.heap.size w w') : Wri B b l w' := by
  obtain ⟨h1, v, h2, h3⟩ := h
  exact ⟨h1, v, h2.below hb, h3.below hb⟩
theorem Wri.lt {B b : Nat} {l : List UInt8} {w : World} (h : Wri B b l w) : b < w.heap.size := by
  obtain ⟨h1, v, h2, h3⟩ := h
  exact h2.lt
/-- What a call on the writer leaves. -/
def Laid (B b : Nat) (bs : List UInt8) (w : World) (e : Ending) (w' : World) : Prop := e = .returned (.tuple #[]) ∧ Wri B b bs w' ∧ Below B w w' ∧ Oth b w w'
set_option maxHeartbeats 1600000 in
theorem text_any (B b : Nat) (bs : List UInt8) (s : ByteArray) (w : World) (h : Wri B b bs w) (hB : B ≤ w.heap.size) (hl : bs.length ≤ 800000) (hs : s.size ≤ 100000) :
    Calls Tryz.prog 162 #[.pointer (some ⟨b, 0, none⟩), .string s] w (Laid B b (bs ++ s.data.toList) w) := by
  obtain ⟨hBb, v, hb, hown⟩ := h
  have d0 := hb.cell 0 v rfl
  have HB := Lib.hid hb
  have HO := Lib.hid hown
  clear hb hown
  go_enter Tryz.func162, Tryz.ntmps162
  go_wp2_with (at_builtin; refine app_str rfl _ _ rfl B v bs s rfl HO.out rfl ?cL hB ?_)
  case cL => omega
  intro v' w2 hown2 hgrow hbel
  have hlt := HB.out.lt
  have hne := ob_ne HO.out HB.out neW
  have hb2 : Bk 134 w2 b #[v] := (hgrow.block b hlt (fun e => hne e.symm)).trans HB.out
  have HT := Lib.hid (Oth.grown (b := b) HO.out hgrow)
  obtain ⟨va2, vc2, rfl⟩ := own_form hown2
  have d0 := hb2.cell 0 v rfl
  have f0 := hb2.frozen 0
  have HB2 := Lib.hid hb2
  have HO2 := Lib.hid hown2
  clear hb2 hown2 hgrow HB HO hne hlt
  generalize bs ++ s.data.toList = bs2 at *
  go_wp2_with fail
  go_end0
  exact ⟨rfl, ⟨hBb, _, HB2.out.set rfl, own_set HO2.out HB2.out neW⟩, hbel.setCell (p := ⟨b, 0, none⟩) hBb _, HT.out.trans Oth.set⟩
set_option maxHeartbeats 800000 in
theorem num_any (B b : Nat) (bs : List UInt8) (v : Int) (n : Nat) (ni : Int) (hni : ni = n) (h1 : 1 ≤ n) (h7 : n ≤ 7) (w : World) (h : Wri B b bs w) (hB : B ≤ w.heap.size) (hl : bs.length ≤ 800000) :
    Calls Tryz.prog 154 #[.pointer (some ⟨b, 0, none⟩), .int .i64 v, .int .i64 ni] w (Laid B b (bs ++ layN v n) w) := by
  have P1 := Lib.hid (oput_any v n ni hni h1 h7 w)
  have HS := Lib.hid (show (⟨(layN v n).toArray⟩ : ByteArray).size ≤ 100000 from by have := layN_len v n; show (layN v n).toArray.size ≤ _; simp; omega)
  have HE := Lib.hid (show (⟨(layN v n).toArray⟩ : ByteArray).data.toList = layN v n from rfl)
  generalize (⟨(layN v n).toArray⟩ : ByteArray) = s at *
  have HW := Lib.hid h
  clear h hni
  go_enter Tryz.func154, Tryz.ntmps154
  go_wp2_with fail
  refine P1.out.mono ?_
  rintro e w1 ⟨rfl, hb⟩
  have P2 := Lib.hid (text_any B b bs s w1 (HW.out.below hb) (Nat.le_trans hB hb.size) hl HS.out)
  have HO := Lib.hid (Oth.below (b := b) hb)
  have HL := Lib.hid (hb.mono hB)
  clear hb P1
  go_wp2_with fail
  refine P2.out.mono ?_
  rintro e w2 ⟨rfl, hw, hb, ho⟩
  go_wp2_with fail
  go_end0
  exact ⟨rfl, by rw [← HE.out]; exact hw, HL.out.trans hb, HO.out.trans ho⟩
/-- What stands in the middle of laying a message's fields: the writer, the message's copy in block k. -/
structure U (B b k : Nat) (w0 W : World) (m : M) (bs : List UInt8) : Prop where
  wr : Wri B b bs W
  m : Bx W k m
  bel : Below B w0 W
  oth : Oth b w0 W
  siz : B ≤ W.heap.size
  ne : k ≠ b
section
variable {B b k : Nat} {w0 W W' : World} {m : M} {bs bs' : List UInt8}
theorem U.start (w : World) (h : Wri B b bs w) (hB : B ≤ w.heap.size) : U B b w.heap.size w (w.alloc (.cells m.cells 38)) m bs :=
  ⟨h.below (balloc (Below.refl _ w) _), Bx.new w m, (balloc (Below.refl _ w) _).mono hB, Oth.below (balloc (Below.refl _ w) _), Nat.le_trans hB (balloc (Below.refl w.heap.size w) (.cells m.cells 38)).size, by have := h.lt; omega⟩
theorem U.call (u : U B b k w0 W m bs) (hb : Below W.heap.size W W') : U B b k w0 W' m bs :=
  ⟨u.wr.below hb, u.m.below hb, u.bel.trans (hb.mono u.siz), u.oth.trans (Oth.below hb), Nat.le_trans u.siz hb.size, u.ne⟩
theorem U.lay {e : Ending} (u : U B b k w0 W m bs) (h : Laid B b bs' W e W') : U B b k w0 W' m bs' :=
  ⟨h.2.1, h.2.2.2.bx u.ne u.m, u.bel.trans h.2.2.1, u.oth.trans h.2.2.2, Nat.le_trans u.siz h.2.2.1.size, u.ne⟩
end
theorem zeros_list (n : Nat) : (⟨(List.replicate n (0 : UInt8)).toArray⟩ : ByteArray).data.toList = List.replicate n 0 := rfl
set_option maxHeartbeats 3200000 in
theorem ackReq_any (B b : Nat) (bs : List UInt8) (m : M) (w : World) (h : Wri B b bs w) (hB : B ≤ w.heap.size) (hl : bs.length ≤ 700000) : Calls Tryz.prog 153 #[.pointer (some ⟨b, 0, none⟩), .agg m.cells] w (Laid B b (bs ++ fld7 m) w) := by
  have HL := Lib.hid hl
  clear hl
  have HU := Lib.hid (U.start (m := m) w h hB)
  clear h
  go_enter Tryz.func153, Tryz.ntmps153
  go_upto_region 1 with fail
  generalize w.alloc (.cells m.cells 38) = V at *
  generalize w.heap.size = k at *
  have c14 := HU.out.m.cs.c14
  have c17 := HU.out.m.cs.c17
  go_wp2_with fail
  refine (Oct.zeros_mid 2 _ (by omega)).mono ?_
  rintro r V' ⟨rfl, hb⟩
  have HU := Lib.hid (HU.out.call hb)
  clear hb
  clear c14 c17
  have c14 := HU.out.m.cs.c14
  have c17 := HU.out.m.cs.c17
  go_wp2_with fail
  refine (text_any B b _ ⟨(List.replicate 2 (0 : UInt8)).toArray⟩ _ HU.out.wr HU.out.siz (by have := HL.out; omega) (by decide)).mono ?_
  rintro r V' hlaid
  have HU := Lib.hid (HU.out.lay hlaid)
  obtain ⟨rfl, hlaid⟩ := hlaid
  clear hlaid
  clear c14 c17
  have c14 := HU.out.m.cs.c14
  have c17 := HU.out.m.cs.c17
  rw [zeros_list] at HU
  go_wp2_with fail
  refine (num_any B b _ m.nonce 2 2 rfl (by omega) (by omega) _ HU.out.wr HU.out.siz (by have := HL.out; simp only [List.length_append, List.length_replicate]; have := layN_len (m.nonce) 2; omega)).mono ?_
  rintro r V' hlaid
  have HU := Lib.hid (HU.out.lay hlaid)
  obtain ⟨rfl, hlaid⟩ := hlaid
  clear hlaid
  clear c14
  have c14 := HU.out.m.cs.c14
  go_wp2_with fail
  refine (num_any B b _ m.interval 2 2 rfl (by omega) (by omega) _ HU.out.wr HU.out.siz (by have := HL.out; simp only [List.length_append, List.length_replicate]; have := layN_len (m.interval) 2; have := layN_len (m.nonce) 2; omega)).mono ?_
  rintro r V' hlaid
  have HU := Lib.hid (HU.out.lay hlaid)
  obtain ⟨rfl, hlaid⟩ := hlaid
  clear hlaid
  go_wp2_with fail
  go_end0
  refine ⟨rfl, ?_, HU.out.bel, HU.out.oth⟩
  have hw := HU.out.wr
  rw [show bs ++ fld7 m = bs ++ List.replicate 2 0 ++ layN m.nonce 2 ++ layN m.interval 2 by simp [fld7]]; exact hw
set_option maxHeartbeats 3200000 in
theorem hello_any (B b : Nat) (bs : List UInt8) (m : M) (w : World) (h : Wri B b bs w) (hB : B ≤ w.heap.size) (hl : bs.length ≤ 700000) (f0 : 0 ≤ m.flags) (f1 : m.flags ≤ 1) : Calls Tryz.prog 155 #[.pointer (some ⟨b, 0, none⟩), .agg m.cells] w (Laid B b (bs ++ fld9 m) w) := by
  have HL := Lib.hid hl
  have hq : wrap64 (m.flags * 32768) = m.flags * 32768 := IntWalk.wrap64_in _ ⟨by omega, by omega⟩
  clear hl
  have HU := Lib.hid (U.start (m := m) w h hB)
  clear h
  go_enter Tryz.func155, Tryz.ntmps155
  go_upto_region 1 with fail
  generalize w.alloc (.cells m.cells 38) = V at *
  generalize w.heap.size = k at *
  have c12 := HU.out.m.cs.c12
  have c14 := HU.out.m.cs.c14
  have c15 := HU.out.m.cs.c15
  go_wp2_with fail
  refine (num_any B b _ (m.flags * 32768) 2 2 rfl (by omega) (by omega) _ HU.out.wr HU.out.siz (by have := HL.out; have := layN_len ((m.flags * 32768)) 2; omega)).mono ?_
  rintro r V' hlaid
  have HU := Lib.hid (HU.out.lay hlaid)
  obtain ⟨rfl, hlaid⟩ := hlaid
  clear hlaid
  clear c12 c14
  have c12 := HU.out.m.cs.c12
  have c14 := HU.out.m.cs.c14
  go_wp2_with fail
  refine (num_any B b _ m.seq 2 2 rfl (by omega) (by omega) _ HU.out.wr HU.out.siz (by have := HL.out; simp only [List.length_append]; have := layN_len (m.seq) 2; have := layN_len (m.flags * 32768) 2; omega)).mono ?_
  rintro r V' hlaid
  have HU := Lib.hid (HU.out.lay hlaid)
  obtain ⟨rfl, hlaid⟩ := hlaid
  clear hlaid
  clear c14
  have c14 := HU.out.m.cs.c14
  go_wp2_with fail
  refine (num_any B b _ m.interval 2 2 rfl (by omega) (by omega) _ HU.out.wr HU.out.siz (by have := HL.out; simp only [List.length_append]; have := layN_len (m.interval) 2; have := layN_len (m.flags * 32768) 2; have := layN_len (m.seq) 2; omega)).mono ?_
  rintro r V' hlaid
  have HU := Lib.hid (HU.out.lay hlaid)
  obtain ⟨rfl, hlaid⟩ := hlaid
  clear hlaid
  go_wp2_with fail
  go_end0
  refine ⟨rfl, ?_, HU.out.bel, HU.out.oth⟩
  have hw := HU.out.wr
  rw [show bs ++ fld9 m = bs ++ layN (m.flags * 32768) 2 ++ layN m.seq 2 ++ layN m.interval 2 by simp [fld9]]; exact hw
set_option maxHeartbeats 3200000 in
theorem ihu_any (B b : Nat) (bs : List UInt8) (m : M) (w : World) (h : Wri B b bs w) (hB : B ≤ w.heap.size) (hl : bs.length ≤ 700000) (ha : shB m.ae m.addr = true) (ht : Tab w) (hB0 : 1 < B) : Calls Tryz.prog 156 #[.pointer (some ⟨b, 0, none⟩), .agg m.cells] w (Laid B b (bs ++ fld10 m) w) := by
  have HL := Lib.hid hl
  have PS := Lib.hid (fun V (h : Tab V) => shorten_any m.ae m.addr V h)
  have HE := Lib.hid (show bs ++ fld10 m = bs ++ layN m.ae 1 ++ List.replicate 1 0 ++ layN m.cost 2 ++ layN m.interval 2 ++ (shT m.ae m.addr).data.toList by simp [fld10])
  have HT := Lib.hid ht
  rw [ha] at PS
  have HZ := Lib.hid (show (shT m.ae m.addr).size ≤ 100000 by have := (sh_facts ha).2.2.1; have := sizeA_le m.ae; omega)
  generalize shT m.ae m.addr = sa at *
  clear hl ha ht
  have HU := Lib.hid (U.start (m := m) w h hB)
  clear h
  go_enter Tryz.func156, Tryz.ntmps156
  go_upto_region 1 with fail
  generalize w.alloc (.cells m.cells 38) = V at *
  generalize w.heap.size = k at *
  have c5 := HU.out.m.cs.c5
  have c14 := HU.out.m.cs.c14
  have c18 := HU.out.m.cs.c18
  have c19 := HU.out.m.cs.c19
  go_wp2_with fail
  refine (num_any B b _ m.ae 1 1 rfl (by omega) (by omega) _ HU.out.wr HU.out.siz (by have := HL.out; have := layN_len (m.ae) 1; omega)).mono ?_
  rintro r V' hlaid
  have HU := Lib.hid (HU.out.lay hlaid)
  obtain ⟨rfl, hlaid⟩ := hlaid
  clear hlaid
  clear c5 c14 c18 c19
  have c5 := HU.out.m.cs.c5
  have c14 := HU.out.m.cs.c14
  have c18 := HU.out.m.cs.c18
  have c19 := HU.out.m.cs.c19
  go_wp2_with fail
  refine (Oct.zeros_mid 1 _ (by omega)).mono ?_
  rintro r V' ⟨rfl, hb⟩
  have HU := Lib.hid (HU.out.call hb)
  clear hb
  clear c5 c14 c18 c19
  have c5 := HU.out.m.cs.c5
  have c14 := HU.out.m.cs.c14
  have c18 := HU.out.m.cs.c18
  have c19 := HU.out.m.cs.c19
  go_wp2_with fail
  refine (text_any B b _ ⟨(List.replicate 1 (0 : UInt8)).toArray⟩ _ HU.out.wr HU.out.siz (by have := HL.out; simp only [List.length_append]; have := layN_len (m.ae) 1; omega) (by decide)).mono ?_
  rintro r V' hlaid
  have HU := Lib.hid (HU.out.lay hlaid)
  obtain ⟨rfl, hlaid⟩ := hlaid
  clear hlaid
  clear c5 c14 c18 c19
  have c5 := HU.out.m.cs.c5
  have c14 := HU.out.m.cs.c14
  have c18 := HU.out.m.cs.c18
  have c19 := HU.out.m.cs.c19
  rw [zeros_list] at HU
  go_wp2_with fail
  refine (num_any B b _ m.cost 2 2 rfl (by omega) (by omega) _ HU.out.wr HU.out.siz (by have := HL.out; simp only [List.length_append, List.length_replicate]; have := layN_len (m.cost) 2; have := layN_len (m.ae) 1; omega)).mono ?_
  rintro r V' hlaid
  have HU := Lib.hid (HU.out.lay hlaid)
  obtain ⟨rfl, hlaid⟩ := hlaid
  clear hlaid
  clear c5 c14 c19
  have c5 := HU.out.m.cs.c5
  have c14 := HU.out.m.cs.c14
  have c19 := HU.out.m.cs.c19
  go_wp2_with fail
  refine (num_any B b _ m.interval 2 2 rfl (by omega) (by omega) _ HU.out.wr HU.out.siz (by have := HL.out; simp only [List.length_append, List.length_replicate]; have := layN_len (m.interval) 2; have := layN_len (m.ae) 1; have := layN_len (m.cost) 2; omega)).mono ?_
  rintro r V' hlaid
  have HU := Lib.hid (HU.out.lay hlaid)
  obtain ⟨rfl, hlaid⟩ := hlaid
  clear hlaid
  clear c5 c19
  have c5 := HU.out.m.cs.c5
  have c19 := HU.out.m.cs.c19
  go_wp2_with fail
  refine (PS.out _ (HT.out.under HU.out.bel hB0)).mono ?_
  rintro r V' ⟨rfl, rfl⟩
  go_wp2_with fail
  refine (text_any B b _ sa _ HU.out.wr HU.out.siz (by have := HL.out; simp only [List.length_append, List.length_replicate]; have := layN_len (m.ae) 1; have := layN_len (m.cost) 2; have := layN_len (m.interval) 2; omega) HZ.out).mono ?_
  rintro r V' hlaid
  have HU := Lib.hid (HU.out.lay hlaid)
  obtain ⟨rfl, hlaid⟩ := hlaid
  clear hlaid
  go_wp2_with fail
  go_end0
  refine ⟨rfl, ?_, HU.out.bel, HU.out.oth⟩
  have hw := HU.out.wr
  rw [HE.out]; exact hw
/-- What fields leaves: the type. -/
def LaidT (B b : Nat) (t : Int) (bs : List UInt8) (w : World) (e : Ending) (w' : World) : Prop := e = .returned (.int .i64 t) ∧ Wri B b bs w' ∧ Below B w w' ∧ Oth b w w'
set_option maxHeartbeats 3200000 in
theorem fields_any (B b : Nat) (m : M) (w : World) (h : Wri B b [] w) (hB : B ≤ w.heap.size) (hk : kindB m = true) (ht : Tab w) (hB0 : 1 < B) : Calls Tryz.prog 138 #[.pointer (some ⟨b, 0, none⟩), .agg m.cells] w (LaidT B b (typF m) (fldF m) w) := by
  rcases kind_cases hk with k1 | k1 | ⟨k1, f0, f1⟩ | ⟨k1, ha⟩
  · rw [(f_7 k1).1, (f_7 k1).2]
    clear hk
    have HU := Lib.hid (U.start (m := m) w h hB)
    clear h
    go_enter Tryz.func138, Tryz.ntmps138
    go_upto_region 1 with fail
    generalize w.alloc (.cells m.cells 38) = V at *
    generalize w.heap.size = k at *
    have c0 := HU.out.m.cs.c0
    rw [k1] at c0
    go_wp2_with (first | (refine wpList_loadM (b := k) (m := m) rfl _ rfl rfl HU.out.m ?_))
    refine (ackReq_any B b [] m _ HU.out.wr HU.out.siz (by decide)).mono ?_
    rintro r V' hlaid
    have HU := Lib.hid (HU.out.lay hlaid)
    obtain ⟨rfl, hlaid⟩ := hlaid
    clear hlaid c0
    go_wp2
    go_ret
    exact ⟨rfl, HU.out.wr, HU.out.bel, HU.out.oth⟩
  · rw [(f_8 k1).1, (f_8 k1).2]
    clear hk
    have HU := Lib.hid (U.start (m := m) w h hB)
    clear h
    go_enter Tryz.func138, Tryz.ntmps138
    go_upto_region 1 with fail
    generalize w.alloc (.cells m.cells 38) = V at *
    generalize w.heap.size = k at *
    have c0 := HU.out.m.cs.c0
    have c17 := HU.out.m.cs.c17
    rw [k1] at c0
    go_wp2_with fail
    refine (num_any B b [] m.nonce 2 2 rfl (by omega) (by omega) _ HU.out.wr HU.out.siz (by decide)).mono ?_
    rintro r V' hlaid
    have HU := Lib.hid (HU.out.lay hlaid)
    obtain ⟨rfl, hlaid⟩ := hlaid
    clear hlaid c0
    go_wp2
    go_ret
    exact ⟨rfl, HU.out.wr, HU.out.bel, HU.out.oth⟩
  · rw [(f_9 k1).1, (f_9 k1).2]
    clear hk
    have HU := Lib.hid (U.start (m := m) w h hB)
    clear h
    go_enter Tryz.func138, Tryz.ntmps138
    go_upto_region 1 with fail
    generalize w.alloc (.cells m.cells 38) = V at *
    generalize w.heap.size = k at *
    have c0 := HU.out.m.cs.c0
    rw [k1] at c0
    go_wp2_with (first | (refine wpList_loadM (b := k) (m := m) rfl _ rfl rfl HU.out.m ?_))
    refine (hello_any B b [] m _ HU.out.wr HU.out.siz (by decide) f0 f1).mono ?_
    rintro r V' hlaid
    have HU := Lib.hid (HU.out.lay hlaid)
    obtain ⟨rfl, hlaid⟩ := hlaid
    clear hlaid c0
    go_wp2
    go_ret
    exact ⟨rfl, HU.out.wr, HU.out.bel, HU.out.oth⟩
  · rw [(f_10 k1).1, (f_10 k1).2]
    clear hk
    have HT := Lib.hid ht
    clear ht
    have HU := Lib.hid (U.start (m := m) w h hB)
    clear h
    go_enter Tryz.func138, Tryz.ntmps138
    go_upto_region 1 with fail
    generalize w.alloc (.cells m.cells 38) = V at *
    generalize w.heap.size = k at *
    have c0 := HU.out.m.cs.c0
    rw [k1] at c0
    go_wp2_with (first | (refine wpList_loadM (b := k) (m := m) rfl _ rfl rfl HU.out.m ?_))
    refine (ihu_any B b [] m _ HU.out.wr HU.out.siz (by decide) ha (HT.out.under HU.out.bel hB0) hB0).mono ?_
    rintro r V' hlaid
    have HU := Lib.hid (HU.out.lay hlaid)
    obtain ⟨rfl, hlaid⟩ := hlaid
    clear hlaid c0
    go_wp2
    go_ret
    exact ⟨rfl, HU.out.wr, HU.out.bel, HU.out.oth⟩
theorem dat_cat (m : M) : (⟨(fldF m).toArray⟩ : ByteArray) ++ putS m.sl = datF m := text_eq (by unfold datF; simp [ByteArray.data_append])
set_option maxHeartbeats 6400000 in
theorem put_any (m : M) (w : World) (hm : m.In w) (ln : m.sl.length ≤ 2000) (lb : ∀ x ∈ m.sl, x.1.size ≤ 1099511627776) (ht : Tab w) : Calls Tryz.prog 109 #[.agg m.cells] w fun e w' => e = .returned (.tuple #[.string (putF m), .bool (okF m)]) ∧ Below w.heap.size w w' := by
  have HF := Lib.hid (Fs.new w m hm)
  have hp1 := ht.pos
  have HM := Lib.hid (ht.below (balloc (Below.refl _ w) (.cells m.cells 38)))
  have HI := Lib.hid hm
  have P1 := Lib.hid (fun V (h : m.In V) (t : Tab V) => right_any m V h lb t)
  have P2 := Lib.hid (fun V (h : m.In V) => S3.put_any m.sa m.sc m.sl V h.s ln lb)
  clear lb hm ln ht
  cases hok : okF m
  · have HK := Lib.hid (putF_no hok)
    rw [hok] at P1
    clear hok
    go_enter Tryz.func109, Tryz.ntmps109
    go_upto_region 1 with fail
    generalize w.alloc (.cells m.cells 38) = V at *
    go_wp2_with (first | (refine wpList_loadM (b := w.heap.size) (m := m) rfl _ rfl rfl HF.out.m ?_))
    refine (P1.out _ HF.out.i HM.out).mono ?_
    rintro r w1 ⟨rfl, hb⟩
    have HF := Lib.hid (HF.out.call hb)
    clear hb
    go_wp2
    go_ret2
    exact ⟨pair_eq HK.out.symm rfl, HF.out.bel⟩
  have HK := Lib.hid (putF_yes hok)
  have HX := Lib.hid ((ok_iff m).1 hok).kind
  have HS := Lib.hid ((ok_iff m).1 hok).subs
  have HY := Lib.hid (putB_yes hok)
  have HZ := Lib.hid (show (datF m).size ≤ 1048576 by have := dat_le hok; omega)
  have HC := Lib.hid (dat_cat m)
  have HC1 := Lib.hid (show (⟨(fldF m).toArray⟩ : ByteArray).size ≤ 2000000 by have := (fld_len hok).1; show (fldF m).toArray.size ≤ _; simp; omega)
  have HC2 := Lib.hid (show (putS m.sl).size ≤ 2000000 by have := putS_le m.sl; omega)
  rw [hok] at P1
  rw [HS.out] at P2
  clear hok
  go_enter Tryz.func109, Tryz.ntmps109
  go_upto_region 1 with fail
  generalize w.alloc (.cells m.cells 38) = V at *
  go_wp2_with (first | (refine wpList_loadM (b := w.heap.size) (m := m) rfl _ rfl rfl HF.out.m ?_))
  refine (P1.out _ HF.out.i HM.out).mono ?_
  rintro r w1 ⟨rfl, hb⟩
  have HF := Lib.hid (HF.out.call hb)
  have HM := Lib.hid (HM.out.below hb)
  clear hb P1
  go_upto_region 4 with fail
  have bel := balloc (Below.refl w1.heap.size w1) (.cells #[.slice none 0 0] 134)
  have HW := Lib.hid (show Wri w1.heap.size w1.heap.size [] (w1.alloc (.cells #[.slice none 0 0] 134)) from ⟨Nat.le_refl _, .slice none 0 0, Bk.Bk.new _ w1 _, Own.nil _ _⟩)
  have hlt : w.heap.size < w1.heap.size := HF.out.m.lt
  have HF := Lib.hid (HF.out.call bel)
  have HM := Lib.hid (HM.out.below bel)
  have hsz : w1.heap.size ≤ (w1.alloc (.cells #[.slice none 0 0] 134)).heap.size := bel.size
  clear bel
  generalize w1.alloc (.cells #[.slice none 0 0] 134) = W at *
  generalize w1.heap.size = b at *
  go_wp2_with (first | (refine wpList_loadM (b := w.heap.size) (m := m) rfl _ rfl rfl HF.out.m ?_))
  refine (fields_any b b m _ HW.out hsz HX.out HM.out (by omega)).mono ?_
  rintro r w2 ⟨rfl, hw, hb, ho⟩
  have HF := Lib.hid (show Fs w w2 w.heap.size m from ⟨ho.bx (by omega) HF.out.m, HI.out.below (HF.out.bel.trans (hb.mono (by omega))), HF.out.bel.trans (hb.mono (by omega))⟩)
  have HW := Lib.hid hw
  clear hw hb ho hsz HM
  have c24 := HF.out.m.cs.c24
  go_wp2_with fail
  refine (P2.out _ HF.out.i).mono ?_
  rintro r w3 ⟨rfl, hb⟩
  have HF := Lib.hid (HF.out.call hb)
  have HW := Lib.hid (HW.out.below hb)
  clear hb c24 P2
  obtain ⟨_, v, hb, ho⟩ := HW.out
  have d0 := hb.cell 0 v rfl
  have cv := ho.conv
  have ct := fun W => F6.cat_is _ _ _ HC1.out HC2.out HC.out W
  have PP := Lib.hid (fun V => F6.put_any (typF m) (datF m) V HZ.out)
  generalize (⟨(fldF m).toArray⟩ : ByteArray) = fa at *
  generalize putS m.sl = sb at *
  generalize datF m = da at *
  generalize typF m = ty at *
  clear hb ho HW
  go_wp2_with fail
  refine (PP.out _).mono ?_
  rintro r w4 ⟨rfl, hb⟩
  have HF := Lib.hid (HF.out.call hb)
  clear hb
  go_wp2
  go_ret2
  exact ⟨pair_eq HK.out.symm HY.out, HF.out.bel⟩
end Go.Proofs.YtjhfpobjbijcpaaGreatDoor.G3
namespace Go.Proofs.YtjhfpobjbijcpaaGreatDoor.Jr
open Go.ChangeShapes Go.WideShapes Go.ChangeAt Go.RowKit
open Go.Proofs.YtjhfpobjbijcpaaGreatDoor.Ms
open Go.Proofs.YtjhfpobjbijcpaaGreatDoor.Box
open Go.Proofs.YtjhfpobjbijcpaaGreatDoor.S1
open Go.Proofs.YtjhfpobjbijcpaaGreatDoor.J1
open Go.Proofs.YtjhfpobjbijcpaaGreatDoor.J2
open Go.Proofs.YtjhfpobjbijcpaaGreatDoor.An
open Go.Proofs.YtjhfpobjbijcpaaGreatDoor.Tc
open Go.Proofs.YtjhfpobjbijcpaaGreatDoor.Oct (fitsB)
open Go.Proofs.YtjhfpobjbijcpaaGreatDoor.Hs (run_loadM)
open Go.Proofs.YtjhfpobjbijcpaaGreatDoor.Or (st_yes)
set_option linter.unusedVariables false
set_option maxRecDepth 100000
set_option maxRecDepth 100000
theorem mbare_any (m : M) (w : World) (hm : m.In w) : Calls Tryz.prog 75 #[.agg m.cells] w fun e w' => e = .returned (.bool (bare m)) ∧ Below w.heap.size w w' := Bare.bare_any m w hm
set_option maxHeartbeats 6400000 in
theorem right_any (m : M) (w : World) (hm : m.In w) (lb : ∀ x ∈ m.sl, x.1.size ≤ 1099511627776) (hp : m.pfx.size ≤ maxLen) (ht : Tab w) : Calls Tryz.prog 74 #[.agg m.cells] w fun e w' => e = .returned (.bool (okJ m)) ∧ Below w.heap.size w w' := by
  have HF := Lib.hid (Fs.new w m hm)
  have HM := Lib.hid (ht.below (balloc (Below.refl _ w) (.cells m.cells 38)))
  have HK := Lib.hid (show okJ m = (bare m && (inB m.ae m.pfx m.plen && (okS m.sl && kindB m))) from rfl)
  have P1 := Lib.hid (fun V (h : m.In V) => mbare_any m V h)
  have P2 := Lib.hid (fun V (h : Tab V) => in_any m.ae m.pfx m.plen V hp h)
  have P3 := Lib.hid (fun V (h : m.In V) => S2.right_any m.sa m.sc m.sl V h.s h.sl lb)
  have P4 := Lib.hid (fun V => kind_any m V)
  clear lb hm ht hp
  generalize okJ m = y at *
  generalize bare m = x1 at *
  generalize inB m.ae m.pfx m.plen = x2 at *
  generalize okS m.sl = x3 at *
  generalize kindB m = x4 at *
  go_enter Tryz.func74, Tryz.ntmps74
  go_upto_region 1 with fail
  generalize w.alloc (.cells m.cells 38) = V at *
  have c5 := HF.out.m.cs.c5
  have c6 := HF.out.m.cs.c6
  have c7 := HF.out.m.cs.c7
  have c24 := HF.out.m.cs.c24
  cases x1
  · go_wp2_with (first | (refine st_yes (v := .agg (M.cells m)) (by rfl) rfl (run_loadM (x := .tmp 1) rfl rfl HF.out.m) ?_))
    refine (P1.out _ HF.out.i).mono ?_
    rintro r w' ⟨rfl, hb⟩
    have HM := Lib.hid (HM.out.below hb)
    have HF := Lib.hid (HF.out.call hb)
    clear hb c5 c6 c7 c24
    have c5 := HF.out.m.cs.c5
    have c6 := HF.out.m.cs.c6
    have c7 := HF.out.m.cs.c7
    have c24 := HF.out.m.cs.c24
    go_wp2_with (first | (refine st_yes (v := .agg (M.cells m)) (by rfl) rfl (run_loadM (x := .tmp 1) rfl rfl HF.out.m) ?_))
    go_ret
    exact ⟨J2.bool_eq HK.out.symm, HF.out.bel⟩
  cases x2
  · go_wp2_with (first | (refine st_yes (v := .agg (M.cells m)) (by rfl) rfl (run_loadM (x := .tmp 1) rfl rfl HF.out.m) ?_))
    refine (P1.out _ HF.out.i).mono ?_
    rintro r w' ⟨rfl, hb⟩
    have HM := Lib.hid (HM.out.below hb)
    have HF := Lib.hid (HF.out.call hb)
    clear hb c5 c6 c7 c24
    have c5 := HF.out.m.cs.c5
    have c6 := HF.out.m.cs.c6
    have c7 := HF.out.m.cs.c7
    have c24 := HF.out.m.cs.c24
    go_wp2_with (first | (refine st_yes (v := .agg (M.cells m)) (by rfl) rfl (run_loadM (x := .tmp 1) rfl rfl HF.out.m) ?_))
    refine (P2.out _ HM.out).mono ?_
    rintro r w' ⟨rfl, hb⟩
    have HM := Lib.hid (HM.out.below hb)
    have HF := Lib.hid (HF.out.call hb)
    clear hb c5 c6 c7 c24
    have c5 := HF.out.m.cs.c5
    have c6 := HF.out.m.cs.c6
    have c7 := HF.out.m.cs.c7
    have c24 := HF.out.m.cs.c24
    go_wp2_with (first | (refine st_yes (v := .agg (M.cells m)) (by rfl) rfl (run_loadM (x := .tmp 1) rfl rfl HF.out.m) ?_))
    go_ret
    exact ⟨J2.bool_eq HK.out.symm, HF.out.bel⟩
  cases x3
  · go_wp2_with (first | (refine st_yes (v := .agg (M.cells m)) (by rfl) rfl (run_loadM (x := .tmp 1) rfl rfl HF.out.m) ?_))
    refine (P1.out _ HF.out.i).mono ?_
    rintro r w' ⟨rfl, hb⟩
    have HM := Lib.hid (HM.out.below hb)
    have HF := Lib.hid (HF.out.call hb)
    clear hb c5 c6 c7 c24
    have c5 := HF.out.m.cs.c5
    have c6 := HF.out.m.cs.c6
    have c7 := HF.out.m.cs.c7
    have c24 := HF.out.m.cs.c24
    go_wp2_with (first | (refine st_yes (v := .agg (M.cells m)) (by rfl) rfl (run_loadM (x := .tmp 1) rfl rfl HF.out.m) ?_))
    refine (P2.out _ HM.out).mono ?_
    rintro r w' ⟨rfl, hb⟩
    have HM := Lib.hid (HM.out.below hb)
    have HF := Lib.hid (HF.out.call hb)
    clear hb c5 c6 c7 c24
    have c5 := HF.out.m.cs.c5
    have c6 := HF.out.m.cs.c6
    have c7 := HF.out.m.cs.c7
    have c24 := HF.out.m.cs.c24
    go_wp2_with (first | (refine st_yes (v := .agg (M.cells m)) (by rfl) rfl (run_loadM (x := .tmp 1) rfl rfl HF.out.m) ?_))
    refine (P3.out _ HF.out.i).mono ?_
    rintro r w' ⟨rfl, hb⟩
    have HM := Lib.hid (HM.out.below hb)
    have HF := Lib.hid (HF.out.call hb)
    clear hb c5 c6 c7 c24
    have c5 := HF.out.m.cs.c5
    have c6 := HF.out.m.cs.c6
    have c7 := HF.out.m.cs.c7
    have c24 := HF.out.m.cs.c24
    go_wp2_with (first | (refine st_yes (v := .agg (M.cells m)) (by rfl) rfl (run_loadM (x := .tmp 1) rfl rfl HF.out.m) ?_))
    go_ret
    exact ⟨J2.bool_eq HK.out.symm, HF.out.bel⟩
  go_wp2_with (first | (refine st_yes (v := .agg (M.cells m)) (by rfl) rfl (run_loadM (x := .tmp 1) rfl rfl HF.out.m) ?_))
  refine (P1.out _ HF.out.i).mono ?_
  rintro r w' ⟨rfl, hb⟩
  have HM := Lib.hid (HM.out.below hb)
  have HF := Lib.hid (HF.out.call hb)
  clear hb c5 c6 c7 c24
  have c5 := HF.out.m.cs.c5
  have c6 := HF.out.m.cs.c6
  have c7 := HF.out.m.cs.c7
  have c24 := HF.out.m.cs.c24
  go_wp2_with (first | (refine st_yes (v := .agg (M.cells m)) (by rfl) rfl (run_loadM (x := .tmp 1) rfl rfl HF.out.m) ?_))
  refine (P2.out _ HM.out).mono ?_
  rintro r w' ⟨rfl, hb⟩
  have HM := Lib.hid (HM.out.below hb)
  have HF := Lib.hid (HF.out.call hb)
  clear hb c5 c6 c7 c24
  have c5 := HF.out.m.cs.c5
  have c6 := HF.out.m.cs.c6
  have c7 := HF.out.m.cs.c7
  have c24 := HF.out.m.cs.c24
  go_wp2_with (first | (refine st_yes (v := .agg (M.cells m)) (by rfl) rfl (run_loadM (x := .tmp 1) rfl rfl HF.out.m) ?_))
  refine (P3.out _ HF.out.i).mono ?_
  rintro r w' ⟨rfl, hb⟩
  have HM := Lib.hid (HM.out.below hb)
  have HF := Lib.hid (HF.out.call hb)
  clear hb c5 c6 c7 c24
  have c5 := HF.out.m.cs.c5
  have c6 := HF.out.m.cs.c6
  have c7 := HF.out.m.cs.c7
  have c24 := HF.out.m.cs.c24
  go_wp2_with (first | (refine st_yes (v := .agg (M.cells m)) (by rfl) rfl (run_loadM (x := .tmp 1) rfl rfl HF.out.m) ?_))
  refine (P4.out _).mono ?_
  rintro r w' ⟨rfl, hb⟩
  have HM := Lib.hid (HM.out.below hb)
  have HF := Lib.hid (HF.out.call hb)
  clear hb c5 c6 c7 c24
  have c5 := HF.out.m.cs.c5
  have c6 := HF.out.m.cs.c6
  have c7 := HF.out.m.cs.c7
  have c24 := HF.out.m.cs.c24
  go_wp2_with (first | (refine st_yes (v := .agg (M.cells m)) (by rfl) rfl (run_loadM (x := .tmp 1) rfl rfl HF.out.m) ?_))
  go_ret
  exact ⟨J2.bool_eq HK.out.symm, HF.out.bel⟩
end Go.Proofs.YtjhfpobjbijcpaaGreatDoor.Jr
