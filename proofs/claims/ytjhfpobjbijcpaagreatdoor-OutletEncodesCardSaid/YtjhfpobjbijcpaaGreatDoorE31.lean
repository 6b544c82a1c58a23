/-
  The program's calls on the writer: bytes, numbers, the fields of both kinds; Put. Conditions: bytes of the call's own; the message's lists stand in the world, and aren't long; the variable has what it is laid with.
-/
import Derived.Test.YtjhfpobjbijcpaaGreatDoorE24
import Derived.Test.YtjhfpobjbijcpaaGreatDoorE26
import Derived.Test.YtjhfpobjbijcpaaGreatDoorE29
import Derived.Test.YtjhfpobjbijcpaaGreatDoorE30
namespace Go.Proofs.YtjhfpobjbijcpaaGreatDoor.J3
open Go.ChangeShapes Go.WideShapes Go.ChangeAt Go.RowKit
open Go.Proofs.YtjhfpobjbijcpaaGreatDoor.Ms
open Go.Proofs.YtjhfpobjbijcpaaGreatDoor.Box
open Go.Proofs.YtjhfpobjbijcpaaGreatDoor.S1
open Go.Proofs.YtjhfpobjbijcpaaGreatDoor.Nu
open Go.Proofs.YtjhfpobjbijcpaaGreatDoor.J1
open Go.Proofs.YtjhfpobjbijcpaaGreatDoor.J2
open Go.Proofs.YtjhfpobjbijcpaaGreatDoor.Jr
open Go.Proofs.YtjhfpobjbijcpaaGreatDoor.An
open Go.Proofs.YtjhfpobjbijcpaaGreatDoor.Tc
open Go.Proofs.YtjhfpobjbijcpaaGreatDoor.Ow
open Go.Proofs.YtjhfpobjbijcpaaGreatDoor.Oct (fitsB)
open Go.Proofs.YtjhfpobjbijcpaaGreatDoor.F1 (putB putO)
open Go.Proofs.YtjhfpobjbijcpaaGreatDoor.Hs (run_loadM)
open Go.Proofs.YtjhfpobjbijcpaaGreatDoor.Or (st_yes)
open Go.Proofs.YtjhfpobjbijcpaaGreatDoor.Bk (Bk)
set_option linter.unusedVariables false
set_option maxRecDepth 100000
set_option maxRecDepth 100000
/-- The call's own writer in block b has laid bs; what is new begins at B. -/
def Wri (B b : Nat) (bs : List UInt8) (w : World) : Prop := B ≤ b ∧ ∃ v, Bk 130 w b #[v] ∧ Own B w v bs
theorem neW : (130 : TypeId) ≠ 5 := by decide
theorem Wri.below {B b : Nat} {l : List UInt8} {w w' : World} (h : Wri B b l w) (hb : Below w.heap.size w w') : Wri B b l w' := by
  obtain ⟨h1, v, h2, h3⟩ := h
  exact ⟨h1, v, h2.below hb, h3.below hb⟩
theorem Wri.lt {B b : Nat} {l : List UInt8} {w : World} (h : Wri B b l w) : b < w.heap.size := by
  obtain ⟨h1, v, h2, h3⟩ := h
  exact h2.lt
/-- What a call on the writer leaves. -/
def Laid (B b : Nat) (bs : List UInt8) (w : World) (e : Ending) (w' : World) : Prop := e = .returned (.tuple #[]) ∧ Wri B b bs w' ∧ Below B w w' ∧ Oth b w w'
set_option maxHeartbeats 1600000 in
theorem text_any (B b : Nat) (bs : List UInt8) (s : ByteArray) (w : World) (h : Wri B b bs w) (hB : B ≤ w.heap.size) (hl : bs.length ≤ 800000) (hs : s.size ≤ 100000) :
    Calls Tryz.prog 136 #[.pointer (some ⟨b, 0, none⟩), .string s] w (Laid B b (bs ++ s.data.toList) w) := by
  obtain ⟨hBb, v, hb, hown⟩ := h
  have d0 := hb.cell 0 v rfl
  have HB := Lib.hid hb
  have HO := Lib.hid hown
  clear hb hown
  go_enter Tryz.func136, Tryz.ntmps136
  go_wp2_with (at_builtin; refine app_str rfl _ _ rfl B v bs s rfl HO.out rfl ?cL hB ?_)
  case cL => omega
  intro v' w2 hown2 hgrow hbel
  have hlt := HB.out.lt
  have hne := ob_ne HO.out HB.out neW
  have hb2 : Bk 130 w2 b #[v] := (hgrow.block b hlt (fun e => hne e.symm)).trans HB.out
  have HT := Lib.hid (Oth.grown (b := b) HO.out hgrow)
  obtain ⟨va2, vc2, rfl⟩ := own_form hown2
  have d0 := hb2.cell 0 v rfl
  have f0 := hb2.frozen 0
  have HB2 := Lib.hid hb2
  have HO2 := Lib.hid hown2
  clear hb2 hown2 hgrow HB HO hne hlt
  generalize bs ++ s.data.toList = bs2 at *
  go_wp2_with fail
  go_end0
  exact ⟨rfl, ⟨hBb, _, HB2.out.set rfl, own_set HO2.out HB2.out neW⟩, hbel.setCell (p := ⟨b, 0, none⟩) hBb _, HT.out.trans Oth.set⟩
set_option maxHeartbeats 800000 in
theorem num_any (B b : Nat) (bs : List UInt8) (v : Int) (n : Nat) (ni : Int) (hni : ni = n) (h1 : 1 ≤ n) (h7 : n ≤ 7) (w : World) (h : Wri B b bs w) (hB : B ≤ w.heap.size) (hl : bs.length ≤ 800000) :
    Calls Tryz.prog 151 #[.pointer (some ⟨b, 0, none⟩), .int .i64 v, .int .i64 ni] w (Laid B b (bs ++ layN v n) w) := by
  have P1 := Lib.hid (oput_any v n ni hni h1 h7 w)
  have HS := Lib.hid (show (⟨(layN v n).toArray⟩ : ByteArray).size ≤ 100000 from by have := layN_len v n; show (layN v n).toArray.size ≤ _; simp; omega)
  have HE := Lib.hid (show (⟨(layN v n).toArray⟩ : ByteArray).data.toList = layN v n from rfl)
  generalize (⟨(layN v n).toArray⟩ : ByteArray) = s at *
  have HW := Lib.hid h
  clear h hni
  go_enter Tryz.func151, Tryz.ntmps151
  go_wp2_with fail
  refine P1.out.mono ?_
  rintro e w1 ⟨rfl, hb⟩
  have P2 := Lib.hid (text_any B b bs s w1 (HW.out.below hb) (Nat.le_trans hB hb.size) hl HS.out)
  have HO := Lib.hid (Oth.below (b := b) hb)
  have HL := Lib.hid (hb.mono hB)
  clear hb P1
  go_wp2_with fail
  refine P2.out.mono ?_
  rintro e w2 ⟨rfl, hw, hb, ho⟩
  go_wp2_with fail
  go_end0
  exact ⟨rfl, by rw [← HE.out]; exact hw, HL.out.trans hb, HO.out.trans ho⟩
/-- What stands in the middle of laying a message's fields: the writer, the message's copy in block k. -/
structure U (B b k : Nat) (w0 W : World) (m : M) (bs : List UInt8) : Prop where
  wr : Wri B b bs W
  m : Bx W k m
  bel : Below B w0 W
  oth : Oth b w0 W
  siz : B ≤ W.heap.size
  ne : k ≠ b
section
variable {B b k : Nat} {w0 W W' : World} {m : M} {bs bs' : List UInt8}
theorem U.start (w : World) (h : Wri B b bs w) (hB : B ≤ w.heap.size) : U B b w.heap.size w (w.alloc (.cells m.cells 38)) m bs :=
  ⟨h.below (balloc (Below.refl _ w) _), Bx.new w m, (balloc (Below.refl _ w) _).mono hB, Oth.below (balloc (Below.refl _ w) _), Nat.le_trans hB (balloc (Below.refl w.heap.size w) (.cells m.cells 38)).size, by have := h.lt; omega⟩
theorem U.call (u : U B b k w0 W m bs) (hb : Below W.heap.size W W') : U B b k w0 W' m bs :=
  ⟨u.wr.below hb, u.m.below hb, u.bel.trans (hb.mono u.siz), u.oth.trans (Oth.below hb), Nat.le_trans u.siz hb.size, u.ne⟩
theorem U.lay {e : Ending} (u : U B b k w0 W m bs) (h : Laid B b bs' W e W') : U B b k w0 W' m bs' :=
  ⟨h.2.1, h.2.2.2.bx u.ne u.m, u.bel.trans h.2.2.1, u.oth.trans h.2.2.2, Nat.le_trans u.siz h.2.2.1.size, u.ne⟩
end
theorem zeros_list (n : Nat) : (⟨(List.replicate n (0 : UInt8)).toArray⟩ : ByteArray).data.toList = List.replicate n 0 := rfl
theorem U.layT {B b k : Nat} {w0 W W' : World} {m : M} {bs bs' : List UInt8} {e : Ending} {t : Int} (u : U B b k w0 W m bs) (h : e = .returned (.int .i64 t) ∧ Wri B b bs' W' ∧ Below B W W' ∧ Oth b W W') : U B b k w0 W' m bs' :=
  ⟨h.2.1, h.2.2.2.bx u.ne u.m, u.bel.trans h.2.2.1, u.oth.trans h.2.2.2, Nat.le_trans u.siz h.2.2.1.size, u.ne⟩
/-- What request leaves: the type. -/
def LaidT (B b : Nat) (t : Int) (bs : List UInt8) (w : World) (e : Ending) (w' : World) : Prop := e = .returned (.int .i64 t) ∧ Wri B b bs w' ∧ Below B w w' ∧ Oth b w w'
theorem ends9 (m : M) : [] ++ layN m.ae 1 ++ layN m.plen 1 = fld9 m := rfl
theorem ends10 (m : M) : [] ++ layN m.ae 1 ++ layN m.plen 1 ++ layN m.seq 2 ++ layN m.hops 1 ++ List.replicate 1 0 ++ m.id.data.toList = fld10 m := by simp [fld10]
set_option maxHeartbeats 6400000 in
theorem request_any (B b : Nat) (m : M) (w : World) (h : Wri B b [] w) (hB : B ≤ w.heap.size) (hk : kindB m = true) : Calls Tryz.prog 135 #[.pointer (some ⟨b, 0, none⟩), .agg m.cells] w (LaidT B b (typJ m) (fldJ m) w) := by
  have HL := Lib.hid (show ([] : List UInt8).length ≤ 700000 by decide)
  rcases kind_cases hk with k1 | ⟨k1, q⟩
  · rw [(f_12 k1).1, (f_12 k1).2]
    have HE := Lib.hid (ends9 m)
    clear hk
    have HU := Lib.hid (U.start (m := m) w h hB)
    clear h
    go_enter Tryz.func135, Tryz.ntmps135
    go_upto_region 1 with fail
    generalize w.alloc (.cells m.cells 38) = V at *
    generalize w.heap.size = k at *
    have c0 := HU.out.m.cs.c0
    have c5 := HU.out.m.cs.c5
    have c7 := HU.out.m.cs.c7
    rw [k1] at c0
    go_wp2_with fail
    refine (num_any B b _ m.ae 1 1 rfl (by omega) (by omega) _ HU.out.wr HU.out.siz (by have := HL.out; have := layN_len (m.ae) 1; omega)).mono ?_
    rintro r V' hlaid
    have HU := Lib.hid (HU.out.lay hlaid)
    obtain ⟨rfl, hlaid⟩ := hlaid
    clear hlaid
    clear c0 c5 c7
    have c0 := HU.out.m.cs.c0
    rw [k1] at c0
    have c5 := HU.out.m.cs.c5
    have c7 := HU.out.m.cs.c7
    go_wp2_with fail
    refine (num_any B b _ m.plen 1 1 rfl (by omega) (by omega) _ HU.out.wr HU.out.siz (by have := HL.out; simp only [List.length_append]; have := layN_len (m.plen) 1; have := layN_len (m.ae) 1; omega)).mono ?_
    rintro r V' hlaid
    have HU := Lib.hid (HU.out.lay hlaid)
    obtain ⟨rfl, hlaid⟩ := hlaid
    clear hlaid
    clear c0 c5 c7
    have c0 := HU.out.m.cs.c0
    rw [k1] at c0
    have c5 := HU.out.m.cs.c5
    have c7 := HU.out.m.cs.c7
    go_wp2
    go_ret
    refine ⟨rfl, ?_, HU.out.bel, HU.out.oth⟩
    have hw := HU.out.wr
    rw [HE.out] at hw
    exact hw
  · rw [(f_13 k1).1, (f_13 k1).2]
    have HE := Lib.hid (ends10 m)
    have HQ := Lib.hid q
    clear hk q
    have HU := Lib.hid (U.start (m := m) w h hB)
    clear h
    go_enter Tryz.func135, Tryz.ntmps135
    go_upto_region 1 with fail
    generalize w.alloc (.cells m.cells 38) = V at *
    generalize w.heap.size = k at *
    have c0 := HU.out.m.cs.c0
    have c5 := HU.out.m.cs.c5
    have c7 := HU.out.m.cs.c7
    have c11 := HU.out.m.cs.c11
    have c12 := HU.out.m.cs.c12
    have c16 := HU.out.m.cs.c16
    rw [k1] at c0
    go_wp2_with fail
    refine (num_any B b _ m.ae 1 1 rfl (by omega) (by omega) _ HU.out.wr HU.out.siz (by have := HL.out; have := layN_len (m.ae) 1; omega)).mono ?_
    rintro r V' hlaid
    have HU := Lib.hid (HU.out.lay hlaid)
    obtain ⟨rfl, hlaid⟩ := hlaid
    clear hlaid
    clear c0 c5 c7 c11 c12 c16
    have c0 := HU.out.m.cs.c0
    rw [k1] at c0
    have c5 := HU.out.m.cs.c5
    have c7 := HU.out.m.cs.c7
    have c11 := HU.out.m.cs.c11
    have c12 := HU.out.m.cs.c12
    have c16 := HU.out.m.cs.c16
    go_wp2_with fail
    refine (num_any B b _ m.plen 1 1 rfl (by omega) (by omega) _ HU.out.wr HU.out.siz (by have := HL.out; simp only [List.length_append]; have := layN_len (m.plen) 1; have := layN_len (m.ae) 1; omega)).mono ?_
    rintro r V' hlaid
    have HU := Lib.hid (HU.out.lay hlaid)
    obtain ⟨rfl, hlaid⟩ := hlaid
    clear hlaid
    clear c0 c5 c7 c11 c12 c16
    have c0 := HU.out.m.cs.c0
    rw [k1] at c0
    have c5 := HU.out.m.cs.c5
    have c7 := HU.out.m.cs.c7
    have c11 := HU.out.m.cs.c11
    have c12 := HU.out.m.cs.c12
    have c16 := HU.out.m.cs.c16
    go_wp2_with fail
    refine (num_any B b _ m.seq 2 2 rfl (by omega) (by omega) _ HU.out.wr HU.out.siz (by have := HL.out; simp only [List.length_append]; have := layN_len (m.seq) 2; have := layN_len (m.ae) 1; have := layN_len (m.plen) 1; omega)).mono ?_
    rintro r V' hlaid
    have HU := Lib.hid (HU.out.lay hlaid)
    obtain ⟨rfl, hlaid⟩ := hlaid
    clear hlaid
    clear c0 c5 c7 c11 c12 c16
    have c0 := HU.out.m.cs.c0
    rw [k1] at c0
    have c5 := HU.out.m.cs.c5
    have c7 := HU.out.m.cs.c7
    have c11 := HU.out.m.cs.c11
    have c12 := HU.out.m.cs.c12
    have c16 := HU.out.m.cs.c16
    go_wp2_with fail
    refine (num_any B b _ m.hops 1 1 rfl (by omega) (by omega) _ HU.out.wr HU.out.siz (by have := HL.out; simp only [List.length_append]; have := layN_len (m.hops) 1; have := layN_len (m.ae) 1; have := layN_len (m.plen) 1; have := layN_len (m.seq) 2; omega)).mono ?_
    rintro r V' hlaid
    have HU := Lib.hid (HU.out.lay hlaid)
    obtain ⟨rfl, hlaid⟩ := hlaid
    clear hlaid
    clear c0 c5 c7 c11 c12 c16
    have c0 := HU.out.m.cs.c0
    rw [k1] at c0
    have c5 := HU.out.m.cs.c5
    have c7 := HU.out.m.cs.c7
    have c11 := HU.out.m.cs.c11
    have c12 := HU.out.m.cs.c12
    have c16 := HU.out.m.cs.c16
    go_wp2_with fail
    refine (Oct.zeros_mid 1 _ (by omega)).mono ?_
    rintro r V' ⟨rfl, hb⟩
    have HU := Lib.hid (HU.out.call hb)
    clear hb
    clear c0 c5 c7 c11 c12 c16
    have c0 := HU.out.m.cs.c0
    rw [k1] at c0
    have c5 := HU.out.m.cs.c5
    have c7 := HU.out.m.cs.c7
    have c11 := HU.out.m.cs.c11
    have c12 := HU.out.m.cs.c12
    have c16 := HU.out.m.cs.c16
    go_wp2_with fail
    refine (text_any B b _ ⟨(List.replicate 1 (0 : UInt8)).toArray⟩ _ HU.out.wr HU.out.siz (by have := HL.out; simp only [List.length_append]; have := layN_len (m.ae) 1; have := layN_len (m.plen) 1; have := layN_len (m.seq) 2; have := layN_len (m.hops) 1; omega) (by decide)).mono ?_
    rintro r V' hlaid
    have HU := Lib.hid (HU.out.lay hlaid)
    obtain ⟨rfl, hlaid⟩ := hlaid
    clear hlaid
    clear c0 c5 c7 c11 c12 c16
    have c0 := HU.out.m.cs.c0
    rw [k1] at c0
    have c5 := HU.out.m.cs.c5
    have c7 := HU.out.m.cs.c7
    have c11 := HU.out.m.cs.c11
    have c12 := HU.out.m.cs.c12
    have c16 := HU.out.m.cs.c16
    rw [zeros_list] at HU
    go_wp2_with fail
    refine (text_any B b _ m.id _ HU.out.wr HU.out.siz (by have := HL.out; simp only [List.length_append, List.length_replicate]; have := layN_len (m.ae) 1; have := layN_len (m.plen) 1; have := layN_len (m.seq) 2; have := layN_len (m.hops) 1; omega) (by have := HQ.out.id; omega)).mono ?_
    rintro r V' hlaid
    have HU := Lib.hid (HU.out.lay hlaid)
    obtain ⟨rfl, hlaid⟩ := hlaid
    clear hlaid
    clear c0 c5 c7 c11 c12 c16
    have c0 := HU.out.m.cs.c0
    rw [k1] at c0
    have c5 := HU.out.m.cs.c5
    have c7 := HU.out.m.cs.c7
    have c11 := HU.out.m.cs.c11
    have c12 := HU.out.m.cs.c12
    have c16 := HU.out.m.cs.c16
    go_wp2
    go_ret
    refine ⟨rfl, ?_, HU.out.bel, HU.out.oth⟩
    have hw := HU.out.wr
    rw [HE.out] at hw
    exact hw
theorem dat_cat (m : M) : fldJ m ++ (cutP m.ae m.pfx m.plen).data.toList ++ (putS m.sl).data.toList = (datJ m).data.toList := by unfold datJ; simp
set_option maxHeartbeats 6400000 in
theorem put_any (m : M) (w : World) (hm : m.In w) (ln : m.sl.length ≤ 2000) (lb : ∀ x ∈ m.sl, x.1.size ≤ 1099511627776) (hp : m.pfx.size ≤ maxLen) (ht : Tab w) : Calls Tryz.prog 107 #[.agg m.cells] w fun e w' => e = .returned (.tuple #[.string (putJ m), .bool (okJ m)]) ∧ Below w.heap.size w w' := by
  have HF := Lib.hid (Fs.new w m hm)
  have HM := Lib.hid (ht.below (balloc (Below.refl _ w) (.cells m.cells 38)))
  have HI := Lib.hid hm
  have P1 := Lib.hid (fun V (h : m.In V) (t : Tab V) => right_any m V h lb hp t)
  have P2 := Lib.hid (fun V (h : m.In V) => S3.put_any m.sa m.sc m.sl V h.s ln lb)
  clear lb hm ln ht hp
  cases hok : okJ m
  · have HK := Lib.hid (putJ_no hok)
    rw [hok] at P1
    clear hok
    go_enter Tryz.func107, Tryz.ntmps107
    go_upto_region 1 with fail
    generalize w.alloc (.cells m.cells 38) = V at *
    go_wp2_with (first | (refine wpList_loadM (b := w.heap.size) (m := m) rfl _ rfl rfl HF.out.m ?_))
    refine (P1.out _ HF.out.i HM.out).mono ?_
    rintro r w1 ⟨rfl, hb⟩
    have HF := Lib.hid (HF.out.call hb)
    clear hb
    go_wp2
    go_ret2
    exact ⟨pair_eq HK.out.symm rfl, HF.out.bel⟩
  have HK := Lib.hid (putJ_yes hok)
  have HX := Lib.hid ((ok_iff m).1 hok).kind
  have HS := Lib.hid ((ok_iff m).1 hok).subs
  have PC := Lib.hid (fun V => cut_any m.ae m.pfx m.plen V ((ok_iff m).1 hok).pfx)
  have HC := Lib.hid (show (cutP m.ae m.pfx m.plen).size ≤ 16 from by rw [cut_size ((ok_iff m).1 hok).pfx]; exact (count_le (in_cases ((ok_iff m).1 hok).pfx).1).1)
  have HY := Lib.hid (putB_yes hok)
  have HZ := Lib.hid (show (datJ m).size ≤ 1048576 by have := dat_le hok; omega)
  have HD := Lib.hid (dat_cat m)
  have HL := Lib.hid (show (fldJ m).length ≤ 14 by rw [(fld_len hok).1]; exact (szJ_le _).1)
  have HC2 := Lib.hid (putS_le m.sl)
  rw [hok] at P1
  rw [HS.out] at P2
  clear hok
  go_enter Tryz.func107, Tryz.ntmps107
  go_upto_region 1 with fail
  generalize w.alloc (.cells m.cells 38) = V at *
  go_wp2_with (first | (refine wpList_loadM (b := w.heap.size) (m := m) rfl _ rfl rfl HF.out.m ?_))
  refine (P1.out _ HF.out.i HM.out).mono ?_
  rintro r w1 ⟨rfl, hb⟩
  have HF := Lib.hid (HF.out.call hb)
  clear hb P1 HM
  go_upto_region 4 with fail
  have bel := balloc (Below.refl w1.heap.size w1) (.cells #[.slice none 0 0] 130)
  have hlt : w.heap.size < w1.heap.size := HF.out.m.lt
  have HU := Lib.hid (show U w1.heap.size w1.heap.size w.heap.size (w1.alloc (.cells #[.slice none 0 0] 130)) (w1.alloc (.cells #[.slice none 0 0] 130)) m [] from ⟨⟨Nat.le_refl _, .slice none 0 0, Bk.Bk.new _ w1 _, Own.nil _ _⟩, HF.out.m.below bel, Below.refl _ _, Oth.refl _ _, bel.size, by omega⟩)
  have HB := Lib.hid (bcall HF.out.bel bel)
  clear bel HF
  generalize w1.alloc (.cells #[.slice none 0 0] 130) = W at *
  generalize w1.heap.size = b at *
  go_wp2_with (first | (refine wpList_loadM (b := w.heap.size) (m := m) rfl _ rfl rfl HU.out.m ?_))
  refine (request_any b b m _ HU.out.wr HU.out.siz HX.out).mono ?_
  rintro r w2 hlaid
  have HU := Lib.hid (HU.out.layT hlaid)
  obtain ⟨rfl, hlaid⟩ := hlaid
  clear hlaid HX
  have c5 := HU.out.m.cs.c5
  have c6 := HU.out.m.cs.c6
  have c7 := HU.out.m.cs.c7
  generalize cutP m.ae m.pfx m.plen = cp at *
  generalize fldJ m = fl at *
  go_wp2_with fail
  refine (PC.out _).mono ?_
  rintro r w3 ⟨rfl, hb⟩
  have HU := Lib.hid (HU.out.call hb)
  clear hb c5 c6 c7 PC
  go_wp2_with fail
  refine (text_any b b _ cp _ HU.out.wr HU.out.siz (by have := HL.out; omega) (by have := HC.out; omega)).mono ?_
  rintro r w4 hlaid
  have HU := Lib.hid (HU.out.lay hlaid)
  obtain ⟨rfl, hlaid⟩ := hlaid
  clear hlaid
  have HI2 := Lib.hid (HI.out.below (HB.out.trans (HU.out.bel.mono (Nat.le_of_lt hlt))))
  have c24 := HU.out.m.cs.c24
  go_wp2_with fail
  refine (P2.out _ HI2.out).mono ?_
  rintro r w5 ⟨rfl, hb⟩
  have HU := Lib.hid (HU.out.call hb)
  clear hb c24 P2 HI2
  generalize putS m.sl = sb at *
  go_wp2_with fail
  refine (text_any b b _ sb _ HU.out.wr HU.out.siz (by have := HL.out; have := HC.out; have e := J1.size_list cp; simp only [List.length_append, e]; omega) (by have := HC2.out; omega)).mono ?_
  rintro r w6 hlaid
  have HU := Lib.hid (HU.out.lay hlaid)
  obtain ⟨rfl, hlaid⟩ := hlaid
  clear hlaid
  rw [HD.out] at HU
  have HB := Lib.hid (HB.out.trans (HU.out.bel.mono (Nat.le_of_lt hlt)))
  obtain ⟨_, v, hb, ho⟩ := HU.out.wr
  have d0 := hb.cell 0 v rfl
  have cv := ho.conv
  rw [J1.mk_list] at cv
  have PP := Lib.hid (fun V => F6.put_any (typJ m) (datJ m) V HZ.out)
  generalize datJ m = da at *
  generalize typJ m = ty at *
  clear hb ho HU
  go_wp2_with fail
  refine (PP.out _).mono ?_
  rintro r w7 ⟨rfl, hb⟩
  have HB := Lib.hid (bcall HB.out hb)
  clear hb
  go_wp2
  go_ret2
  exact ⟨pair_eq HK.out.symm HY.out, HB.out⟩
end Go.Proofs.YtjhfpobjbijcpaaGreatDoor.J3
