/-
  A part of a proof. No conditions.
-/
import Derived.Test.YtllhobicfclheaaGreatDoorY34
import Derived.Test.YtllhobicfclheaaGreatDoorY35
namespace Go.Proofs.YtllhobicfclheaaGreatDoor
open Go.ChangeShapes Go.WideShapes Go.ChangeAt Go.RowKit
set_option linter.unusedVariables false
set_option maxRecDepth 100000
set_option maxHeartbeats 51200000
namespace J3
open Ms Box S1 Nu J1 J2 Jr An Tc Ow
open Oct (fitsB)
open F1 (putB putO)
open Hs (a0b)
open Go.Proofs.YtllhobicfclheaaGreatDoor.Or (p0a)
open Bk (Bk)
def Wri (B b:Nat)(bs:List UInt8)(w:World):Prop:=B≤b∧∃ v,Bk 251 w b #[v]∧Own B w v bs
theorem neW:(251:TypeId)≠5:=by decide
theorem Wri.below {B b:Nat}{l:List UInt8}{w w':World}(h:Wri B b l w)(hb:Below w.heap.size w w'):Wri B b l w':=by
 refine' qzbj
theorem Wri.lt {B b:Nat}{l:List UInt8}{w:World}(h:Wri B b l w):b<w.heap.size:=by
 obtain⟨h1,v,h2,h3⟩:=h;exact h2.lt
def Laid (B b:Nat)(bs:List UInt8)(w:World)(e:Ending)(w':World):Prop:=e = .returned (.tuple #[])∧Wri B b bs w'∧Below B w w'∧Oth b w w'
theorem x0b (B b:Nat)(bs:List UInt8)(s:ByteArray)(w:World)(h:Wri B b bs w)(hB:B≤w.heap.size)(hl:bs.length≤800000)(hs:s.size≤100000) :
    Calls Tryz.prog 356 #[.pointer (some ⟨b,0,none⟩),.string s] w (Laid B b (bs++s.data.toList) w):=by
 obtain⟨hBb,v,hb,hown⟩:=h;have d0:=hb.cell 0 v rfl;refine' qzcf;clear hb hown;go_in;go_wp2_with (at_builtin;refine n0h rfl _ _ rfl B v bs s rfl HO.out rfl ?cL hB ?_)
 case cL=>omega
 intro v' w2 hown2 hgrow hbel;have hlt:=HB.out.lt;have hne:=x0f HO.out HB.out neW
 have hb2:Bk 251 w2 b #[v]:=(hgrow.block b hlt (fun e=>hne e.symm)).trans HB.out
 have HT:=Lib.hid (Oth.grown (b:=b) HO.out hgrow);obtain⟨va2,vc2,rfl⟩:=b0d hown2;have d0:=hb2.cell 0 v rfl;have f0:=hb2.frozen 0;have HB2:=Lib.hid hb2;have HO2:=Lib.hid hown2;clear hb2 hown2 hgrow HB HO hne hlt;generalize bs++s.data.toList=bs2 at *;refine' qzaj;exact⟨rfl,⟨hBb,_,HB2.out.set rfl,o0e HO2.out HB2.out neW⟩,hbel.setCell (p:=⟨b,0,none⟩) hBb _,HT.out.trans Oth.set⟩
theorem u0b (B b:Nat)(bs:List UInt8)(v:Int)(n:Nat)(ni:Int)(hni:ni=n)(h1:1≤n)(h7:n≤7)(w:World)(h:Wri B b bs w)(hB:B≤w.heap.size)(hl:bs.length≤800000) :
    Calls Tryz.prog 364 #[.pointer (some ⟨b,0,none⟩),.int .i64 v,.int .i64 ni] w (Laid B b (bs++layN v n) w):=by
 have P1:=Lib.hid (s0c v n ni hni h1 h7 w);refine' qz9d;generalize (⟨(layN v n).toArray⟩:ByteArray)=s at *;have HW:=Lib.hid h;clear h hni;refine' qz16;refine' qz78;have P2:=Lib.hid (x0b B b bs s w1 (HW.out.below hb) (Nat.le_trans hB hb.size) hl HS.out);have HO:=Lib.hid (Oth.below (b:=b) hb);have HL:=Lib.hid (hb.mono hB);clear hb P1;refine' qzg;refine P2.out.mono ?_;rintro e w2 ⟨rfl,hw,hb,ho⟩;refine' qzaj
 exact⟨rfl,by rw[←HE.out];exact hw,HL.out.trans hb,HO.out.trans ho⟩
structure U (B b k:Nat)(w0 W:World)(m:M)(bs:List UInt8):Prop where
  wr:Wri B b bs W
  m:Bx W k m
  bel:Below B w0 W
  oth:Oth b w0 W
  siz:B≤W.heap.size
  ne:k≠b
section
variable {B b k:Nat} {w0 W W':World} {m:M} {bs bs':List UInt8}
theorem U.start (w:World)(h:Wri B b bs w)(hB:B≤w.heap.size):U B b w.heap.size w (w.alloc (.cells m.cells 29)) m bs:=
  ⟨h.below (balloc (Below.refl _ w) _),Bx.new w m,(balloc (Below.refl _ w) _).mono hB,Oth.below (balloc (Below.refl _ w) _),Nat.le_trans hB (balloc (Below.refl w.heap.size w) (.cells m.cells 29)).size,by have:=h.lt;omega⟩
theorem U.call (u:U B b k w0 W m bs)(hb:Below W.heap.size W W'):U B b k w0 W' m bs:=
  ⟨u.wr.below hb,u.m.below hb,u.bel.trans (hb.mono u.siz),u.oth.trans (Oth.below hb),Nat.le_trans u.siz hb.size,u.ne⟩
theorem U.lay {e:Ending}(u:U B b k w0 W m bs)(h:Laid B b bs' W e W'):U B b k w0 W' m bs':=
  ⟨h.2.1,h.2.2.2.bx u.ne u.m,u.bel.trans h.2.2.1,u.oth.trans h.2.2.2,Nat.le_trans u.siz h.2.2.1.size,u.ne⟩
end
theorem i0j (n:Nat):(⟨(List.replicate n (0:UInt8)).toArray⟩:ByteArray).data.toList=List.replicate n 0:=rfl
theorem U.layT {B b k:Nat}{w0 W W':World}{m:M}{bs bs':List UInt8}{e:Ending}{t:Int}(u:U B b k w0 W m bs)(h:e = .returned (.int .i64 t)∧Wri B b bs' W'∧Below B W W'∧Oth b W W'):U B b k w0 W' m bs':=
  ⟨h.2.1,h.2.2.2.bx u.ne u.m,u.bel.trans h.2.2.1,u.oth.trans h.2.2.2,Nat.le_trans u.siz h.2.2.1.size,u.ne⟩
def LaidT (B b:Nat)(t:Int)(bs:List UInt8)(w:World)(e:Ending)(w':World):Prop:=e = .returned (.int .i64 t)∧Wri B b bs w'∧Below B w w'∧Oth b w w'
theorem x1s (m:M):[]++layN m.ae 1++layN m.plen 1=fld9 m:=rfl
theorem g1q (m:M):[]++layN m.ae 1++layN m.plen 1++layN m.seq 2++layN m.hops 1++List.replicate 1 0++m.id.data.toList=t0h m:=by simp[t0h]
theorem p0k (B b:Nat)(m:M)(w:World)(h:Wri B b [] w)(hB:B≤w.heap.size)(hk:kindB m=true):Calls Tryz.prog 355 #[.pointer (some ⟨b,0,none⟩),.agg m.cells] w (LaidT B b (typJ m) (fldJ m) w):=by
 have HL:=Lib.hid (show([]:List UInt8).length≤700000 by decide)
 rcases kind_cases hk with k1|⟨k1,q⟩
 · rw[(f_12 k1).1,(f_12 k1).2];have HE:=Lib.hid (x1s m);clear hk;refine' qz6g;refine' qz8c;have c0:=HU.out.m.cs.c0;refine' qz4x;rw[k1]at c0;refine' qz7r;refine' qz8m;clear c0 c5 c7;refine' qz6i;refine' qz4x;refine' qzb5;refine' qz8m;clear c0 c5 c7;refine' qz6i;refine' qz4x;refine' qzj;refine' qza1;rw[HE.out]at hw;exact hw
 · rw[(f_13 k1).1,(f_13 k1).2];have HE:=Lib.hid (g1q m);have HQ:=Lib.hid q;clear hk q;refine' qz6g;refine' qz8c;have c0:=HU.out.m.cs.c0;refine' qz4x;refine' qzb6;rw[k1]at c0;refine' qz7r;refine' qz8m;clear c0 c5 c7 c11 c12 c16;refine' qz6i;refine' qz4x;refine' qzb6;refine' qzb5;refine' qz8m;clear c0 c5 c7 c11 c12 c16;refine' qz6i;refine' qz4x;refine' qzb6;refine' qzg
   refine(u0b B b _ m.seq 2 2 rfl (by omega) (by omega) _ HU.out.wr HU.out.siz (by have:=HL.out;simp only[List.length_append];have:=i0a (m.seq) 2;have:=i0a (m.ae) 1;have:=i0a (m.plen) 1;omega)).mono ?_
   refine' qz8m;clear c0 c5 c7 c11 c12 c16;refine' qz6i;refine' qz4x;refine' qzb6;refine' qzg
   refine(u0b B b _ m.hops 1 1 rfl (by omega) (by omega) _ HU.out.wr HU.out.siz (by have:=HL.out;simp only[List.length_append];have:=i0a (m.hops) 1;have:=i0a (m.ae) 1;have:=i0a (m.plen) 1;have:=i0a (m.seq) 2;omega)).mono ?_
   refine' qz8m;clear c0 c5 c7 c11 c12 c16;refine' qz6i;refine' qz4x;refine' qzb6;refine' qzg
   refine(Oct.y0e 1 _ (by omega)).mono ?_
   rintro r V' ⟨rfl,hb⟩;have HU:=Lib.hid (HU.out.call hb);clear hb;clear c0 c5 c7 c11 c12 c16;refine' qz6i;refine' qz4x;refine' qzb6;refine' qzg
   refine(x0b B b _ ⟨(List.replicate 1 (0:UInt8)).toArray⟩ _ HU.out.wr HU.out.siz (by have:=HL.out;simp only[List.length_append];have:=i0a (m.ae) 1;have:=i0a (m.plen) 1;have:=i0a (m.seq) 2;have:=i0a (m.hops) 1;omega) (by decide)).mono ?_
   refine' qz8m;clear c0 c5 c7 c11 c12 c16;refine' qz6i;refine' qz4x;refine' qzb6;rw[i0j]at HU;refine' qzg
   refine(x0b B b _ m.id _ HU.out.wr HU.out.siz (by have:=HL.out;simp only[List.length_append,List.length_replicate];have:=i0a (m.ae) 1;have:=i0a (m.plen) 1;have:=i0a (m.seq) 2;have:=i0a (m.hops) 1;omega) (by have:=HQ.out.id;omega)).mono ?_
   refine' qz8m;clear c0 c5 c7 c11 c12 c16;refine' qz6i;refine' qz4x;refine' qzb6;refine' qzj;refine' qza1;rw[HE.out]at hw;exact hw
theorem k0u (m:M):fldJ m++(cutP m.ae m.pfx m.plen).data.toList++(putS m.sl).data.toList=(datJ m).data.toList:=by unfold datJ;simp
theorem c0b (m:M)(w:World)(hm:m.In w)(ln:m.sl.length≤2000)(lb:∀ x∈m.sl,x.1.size≤1099511627776)(hp:m.pfx.size≤maxLen)(ht:Tab w):Calls Tryz.prog 334 #[.agg m.cells] w fun e w'=>e = .returned (.tuple #[.string (putJ m),.bool (okJ m)])∧Below w.heap.size w w':=by
 refine' qz41;have HI:=Lib.hid hm
 have P1:=Lib.hid (fun V (h:m.In V) (t:Tab V)=>l0a m V h lb hp t)
 have P2:=Lib.hid (fun V (h:m.In V)=>S3.c0b m.sa m.sc m.sl V h.s ln lb)
 clear lb hm ln ht hp;cases hok:okJ m
 · have HK:=Lib.hid (e1n hok);rw[hok]at P1;clear hok;refine' qz2f;refine' qz1q;refine' qz3r;clear hb;refine' qz2w;exact⟨t0b HK.out.symm rfl,HF.out.bel⟩
 have HK:=Lib.hid (j0x hok);have HX:=Lib.hid ((x0a m).1 hok).kind;have HS:=Lib.hid ((x0a m).1 hok).subs
 have PC:=Lib.hid (fun V=>g0j m.ae m.pfx m.plen V ((x0a m).1 hok).pfx)
 have HC:=Lib.hid (show(cutP m.ae m.pfx m.plen).size≤16 from by rw[t0e ((x0a m).1 hok).pfx];exact(count_le (r0b ((x0a m).1 hok).pfx).1).1)
 have HY:=Lib.hid (h0q hok)
 have HZ:=Lib.hid (show(datJ m).size≤1048576 by have:=v0l hok;omega)
 have HD:=Lib.hid (k0u m)
 have HL:=Lib.hid (show(fldJ m).length≤14 by rw[(u0d hok).1];exact(q1k _).1)
 have HC2:=Lib.hid (m0g m.sl);rw[hok]at P1;rw[HS.out]at P2;clear hok;refine' qz2f;refine' qz1q;refine' qz3r;clear hb P1 HM;refine' qzco;have bel:=balloc (Below.refl w1.heap.size w1) (.cells #[.slice none 0 0] 251);have hlt:w.heap.size<w1.heap.size:=HF.out.m.lt
 have HU:=Lib.hid (show U w1.heap.size w1.heap.size w.heap.size (w1.alloc (.cells #[.slice none 0 0] 251)) (w1.alloc (.cells #[.slice none 0 0] 251)) m []from⟨⟨Nat.le_refl _,.slice none 0 0,Bk.Bk.new _ w1 _,Own.nil _ _⟩,HF.out.m.below bel,Below.refl _ _,Oth.refl _ _,bel.size,by omega⟩)
 have HB:=Lib.hid (bcall HF.out.bel bel);clear bel HF;generalize w1.alloc (.cells #[.slice none 0 0] 251)=W at *;generalize w1.heap.size=b at *
 go_wp2_with (first|(refine j0a (b:=w.heap.size) (m:=m) rfl _ rfl rfl HU.out.m ?_))
 refine(p0k b b m _ HU.out.wr HU.out.siz HX.out).mono ?_;rintro r w2 hlaid;have HU:=Lib.hid (HU.out.layT hlaid);obtain⟨rfl,hlaid⟩:=hlaid;clear hlaid HX;have c5:=HU.out.m.cs.c5;have c6:=HU.out.m.cs.c6;have c7:=HU.out.m.cs.c7;generalize cutP m.ae m.pfx m.plen=cp at *;generalize fldJ m=fl at *;refine' qz5d;rintro r w3 ⟨rfl,hb⟩;have HU:=Lib.hid (HU.out.call hb);clear hb c5 c6 c7 PC;refine' qzg
 refine(x0b b b _ cp _ HU.out.wr HU.out.siz (by have:=HL.out;omega) (by have:=HC.out;omega)).mono ?_
 rintro r w4 hlaid;refine' qz1b;clear hlaid;have HI2:=Lib.hid (HI.out.below (HB.out.trans (HU.out.bel.mono (Nat.le_of_lt hlt))));have c24:=HU.out.m.cs.c24;refine' qzg;refine(P2.out _ HI2.out).mono ?_;rintro r w5 ⟨rfl,hb⟩;have HU:=Lib.hid (HU.out.call hb);clear hb c24 P2 HI2;generalize putS m.sl=sb at *;refine' qzg
 refine(x0b b b _ sb _ HU.out.wr HU.out.siz (by have:=HL.out;have:=HC.out;have e:=J1.c0a cp;simp only[List.length_append,e];omega) (by have:=HC2.out;omega)).mono ?_
 rintro r w6 hlaid;refine' qz1b;clear hlaid;rw[HD.out]at HU;have HB:=Lib.hid (HB.out.trans (HU.out.bel.mono (Nat.le_of_lt hlt)));obtain⟨_,v,hb,ho⟩:=HU.out.wr;have d0:=hb.cell 0 v rfl
 have cv:=ho.conv
 rw[J1.u1m]at cv
 have PP:=Lib.hid (fun V=>F6.c0b (typJ m) (datJ m) V HZ.out)
 generalize datJ m=da at *;generalize typJ m=ty at *;clear hb ho HU;refine' qzg;refine(PP.out _).mono ?_;rintro r w7 ⟨rfl,hb⟩;refine' qz63;refine' qz2w;exact⟨t0b HK.out.symm HY.out,HB.out⟩
end J3
namespace L5
open Ms Box An Tc
open Nu (k0a)
open G1 (okF putF)
open J1 (okJ putJ bare)
open K1 (okU)
open Oct (fitsB e0b)
open L1 L2 L4
open F1 (enc1 ok1 w0e putO)
open F6 (PutIs)
theorem no_F {m:M}(h:¬(7≤m.kind∧m.kind≤10)):okF m=false:=by
 cases k:okF m
 · rfl
 · exact absurd (m0f k) h
theorem no_J {m:M}(h:¬(m.kind=12∨m.kind=13)):okJ m=false:=by
 cases k:okJ m
 · rfl
 · exact absurd (h0g k) h
theorem no_U {m:M}(h:¬m.kind=11):okU m=false:=by
 cases k:okU m
 · rfl
 · exact absurd ((m0c m).1 k).kind h
theorem no_O {m:M}(h:¬m.kind=14):okO m=false:=by
 cases k:okO m
 · rfl
 · exact absurd (b0f k).1 h
theorem a1d {m:M}(h:m.kind=7∨m.kind=8∨m.kind=9∨m.kind=10):okL m=okF m:=by
 unfold okL;rw[no_J (by omega),no_U (by omega),no_O (by omega)];simp
theorem c1s {m:M}(h:m.kind=11):okL m=okU m:=by
 unfold okL;rw[no_F (by omega),no_J (by omega),no_O (by omega)];simp
theorem c1p {m:M}(h:m.kind=12∨m.kind=13):okL m=okJ m:=by
 unfold okL;rw[no_F (by omega),no_U (by omega),no_O (by omega)];simp
theorem y1r {m:M}(h:m.kind=14):okL m=okO m:=by
 unfold okL;rw[no_F (by omega),no_J (by omega),no_U (by omega)];simp
theorem p1p {m:M}(h:¬(7≤m.kind∧m.kind≤14)):okL m=false:=by
 unfold okL;rw[no_F (by omega),no_J (by omega),no_U (by omega),no_O (by omega)];simp
theorem d0n (v:Int):fitsB v 1=true↔0≤v∧v≤255:=by
 have:=e0b v 1;have h:((Oct.pw (Int.toNat 1):Nat):Int)=256:=rfl;rw[this,h];omega
theorem p1r {m:M}(h:m.kind=14):okO m=(bare m&&(decide (11≤m.typ)&&(fitsB m.typ 1&&fitsB (m.data.size:Int) 1))):=by
 unfold okO;rw[decide_eq_true h,Bool.true_and,Bool.eq_iff_iff];simp only[Bool.and_eq_true,decide_eq_true_eq,d0n]
 constructor<;>(rintro⟨h1,h2⟩;exact⟨h1,by omega⟩)
theorem i0f (m:M)(w:World)(hm:m.In w):Calls Tryz.prog 77 #[.agg m.cells] w fun e w'=>e = .returned (.bool (bare m))∧Below w.heap.size w w':=Bare.z0c m w hm
theorem l0a (m:M)(w:World)(hm:m.In w)(lb:∀ x∈m.sl,x.1.size≤1099511627776)(hp:m.pfx.size≤maxLen)(ht:Tab w):Calls Tryz.prog 40 #[.agg m.cells] w fun e w'=>e = .returned (.bool (okL m))∧Below w.heap.size w w':=by
 refine' qz41
 have P1:=Lib.hid (fun V (h:m.In V) (y:Tab V)=>G2.l0a m V h lb y)
 have P2:=Lib.hid (fun V (h:m.In V) (y:Tab V)=>K2.l0a m V h lb hp y)
 have P3:=Lib.hid (fun V (h:m.In V) (y:Tab V)=>Jr.l0a m V h lb hp y)
 have P4:=Lib.hid (fun V (h:m.In V)=>i0f m V h)
 clear lb hm ht hp;by_cases k:m.kind=7
 · have HK:=Lib.hid (a1d (.inl k));generalize okF m=y at *;generalize okL m=z at *;refine' qz2m;rw[k]at c0;clear k;refine' qz1q;refine' qzr;clear hb c0;refine' qz3q
 have n7:(m.kind==7)=false:=by simpa using k
 have m7:=k;clear k;by_cases k:m.kind=8
 · have HK:=Lib.hid (a1d (.inr (.inl k)));generalize okF m=y at *;generalize okL m=z at *;refine' qz2m;rw[k]at c0;clear k;refine' qz1q;refine' qzr;clear hb c0;refine' qz3q
 have n8:(m.kind==8)=false:=by simpa using k
 have m8:=k;clear k;by_cases k:m.kind=9
 · have HK:=Lib.hid (a1d (.inr (.inr (.inl k))));generalize okF m=y at *;generalize okL m=z at *;refine' qz2m;rw[k]at c0;clear k;refine' qz1q;refine' qzr;clear hb c0;refine' qz3q
 have n9:(m.kind==9)=false:=by simpa using k
 have m9:=k;clear k;by_cases k:m.kind=10
 · have HK:=Lib.hid (a1d (.inr (.inr (.inr k))));generalize okF m=y at *;generalize okL m=z at *;refine' qz2m;rw[k]at c0;clear k;refine' qz1q;refine' qzr;clear hb c0;refine' qz3q
 have n10:(m.kind==10)=false:=by simpa using k
 have m10:=k;clear k;by_cases k:m.kind=11
 · have HK:=Lib.hid (c1s k);generalize okU m=y at *;generalize okL m=z at *;refine' qz2m;rw[k]at c0;refine' qz3i;refine(P2.out _ HF.out.i HM.out).mono ?_;refine' qzr;clear hb c0;refine' qz3q
 have n11:(m.kind==11)=false:=by simpa using k
 have m11:=k;clear k;by_cases k:m.kind=12
 · have HK:=Lib.hid (c1p (.inl k));generalize okJ m=y at *;generalize okL m=z at *;refine' qz2m;rw[k]at c0;refine' qz3i;refine(P3.out _ HF.out.i HM.out).mono ?_;refine' qzr;clear hb c0;refine' qz3q
 have n12:(m.kind==12)=false:=by simpa using k
 have m12:=k;clear k;by_cases k:m.kind=13
 · have HK:=Lib.hid (c1p (.inr k));generalize okJ m=y at *;generalize okL m=z at *;refine' qz2m;rw[k]at c0;refine' qz3i;refine(P3.out _ HF.out.i HM.out).mono ?_;refine' qzr;clear hb c0;refine' qz3q
 have n13:(m.kind==13)=false:=by simpa using k
 have m13:=k;clear k;by_cases k:m.kind=14;rotate_left
 · have n14:(m.kind==14)=false:=by simpa using k
   have HK:=Lib.hid (show okL m=false from p1p (by omega))
   generalize okL m=z at *;clear k m7 m8 m9 m10 m11 m12 m13;refine' qz2m;refine' qz3q
 have HK:=Lib.hid ((y1r k).trans (p1r k))
 have Q1:=Lib.hid (fun V=>Oct.k0b m.typ 1 V)
 have Q2:=Lib.hid (fun V=>Oct.k0b (m.data.size:Int) 1 V)
 generalize bare m=x1 at *;generalize fitsB m.typ 1=x3 at *;generalize fitsB (m.data.size:Int) 1=x4 at *;generalize okL m=z at *;clear n7 n8 n9 n10 n11 n12 n13 m7 m8 m9 m10 m11 m12 m13;cases x1
 · refine' qz2m;rw[k]at c0;refine' qz3i;refine(P4.out _ HF.out.i).mono ?_;refine' qzr;clear hb c0;refine' qzci;refine' qz3q
 by_cases h11:11≤m.typ;rotate_left
 · rw[decide_eq_false h11]at HK;refine' qz2m;rw[k]at c0;refine' qz3i;refine(P4.out _ HF.out.i).mono ?_;refine' qzr;clear hb c0;refine' qzci;refine' qz3q
 rw[decide_eq_true h11]at HK;cases x3
 · refine' qz2m;rw[k]at c0;refine' qz3i;refine(P4.out _ HF.out.i).mono ?_;refine' qzr;clear hb c0;refine' qzci;refine' qzg;refine(Q1.out _).mono ?_;refine' qz2g;refine' qz3q
 refine' qz2m;rw[k]at c0;refine' qz3i;refine(P4.out _ HF.out.i).mono ?_;refine' qzr;clear hb c0;refine' qzci;refine' qzg;refine(Q1.out _).mono ?_;refine' qz2g;refine' qzg;refine(Q2.out _).mono ?_;refine' qz2g;refine' qz3q
theorem y1e (m:M)(w:World)(hm:m.In w)(ln:m.sl.length≤2000)(lb:∀ x∈m.sl,x.1.size≤1099511627776)(hp:m.pfx.size≤maxLen)(ht:Tab w)(ho:okL m=true)(h11:¬m.kind=11):Calls Tryz.prog 300 #[.agg m.cells] w fun e w'=>e = .returned (.string ⟨(enc1 (othE m)).toArray⟩)∧Below w.heap.size w w':=by
 refine' qz41
 rcases ok_not ho h11 with hF|⟨nF,hJ⟩|⟨nF,nJ,hO⟩
 · have hk:=m0f hF
   have HK:=Lib.hid (show(⟨(enc1 (othE m)).toArray⟩:ByteArray)=putF m by unfold othE;rw[if_pos hF];exact k0a (G1.c0p hF).1.symm)
   have P1:=Lib.hid (fun V (h:m.In V) (y:Tab V)=>G3.c0b m V h ln lb y)
   have n12:(m.kind==12)=false:=by simp;omega
   have n13:(m.kind==13)=false:=by simp;omega
   have n14:(m.kind==14)=false:=by simp;omega
   clear hF hk ho h11 ln lb hp ht hm;generalize (⟨(enc1 (othE m)).toArray⟩:ByteArray)=z at *;generalize putF m=u at *;generalize okF m=y at *;refine' qzb8;generalize w.alloc (.cells m.cells 29)=V at *;have c0:=HF.out.m.cs.c0;refine' qz1q;refine' qzr;clear hb c0;refine' qzj;exact⟨n0d HK.out.symm,HF.out.bel⟩
 · have HK:=Lib.hid (show(⟨(enc1 (othE m)).toArray⟩:ByteArray)=putJ m by unfold othE;rw[if_neg (by rw[nF];decide),if_pos hJ];exact k0a (J1.j0p hJ).1.symm)
   have P1:=Lib.hid (fun V (h:m.In V) (y:Tab V)=>J3.c0b m V h ln lb hp y)
   have hk:=h0g hJ;clear hJ nF ho h11 ln lb hp ht hm;generalize (⟨(enc1 (othE m)).toArray⟩:ByteArray)=z at *;generalize putJ m=u at *;generalize okJ m=y at *
   rcases hk with k|k
   · refine' qzb8;generalize w.alloc (.cells m.cells 29)=V at *;have c0:=HF.out.m.cs.c0;rw[k]at c0;clear k;refine' qz1q;refine' qzr;clear hb c0;refine' qzj;exact⟨n0d HK.out.symm,HF.out.bel⟩
   · refine' qzb8;generalize w.alloc (.cells m.cells 29)=V at *;have c0:=HF.out.m.cs.c0;rw[k]at c0;clear k;refine' qz1q;refine' qzr;clear hb c0;refine' qzj;exact⟨n0d HK.out.symm,HF.out.bel⟩
 · obtain⟨k,_,o3,o4,o5⟩:=b0f hO
   have ho1:ok1 (m.data,m.typ):=⟨by show 0≤m.typ;omega,o4,o5,fun h0=>absurd h0 (by show ¬m.typ=0;omega)⟩
   have hpu:=(w0e ho1 (by show ¬m.typ=0;omega)).2
   have HK:=Lib.hid (show(⟨(enc1 (othE m)).toArray⟩:ByteArray)=putO m.typ m.data by unfold othE;rw[if_neg (by rw[nF];decide),if_neg (by rw[nJ];decide)];exact hpu.symm)
   have P1:=Lib.hid (fun V=>F6.c0b m.typ m.data V (by omega))
   unfold PutIs at P1;clear hO nF nJ ho h11 ln lb hp ht hm ho1 hpu o3 o4 o5;generalize (⟨(enc1 (othE m)).toArray⟩:ByteArray)=z at *;generalize putO m.typ m.data=u at *;generalize F1.putB m.typ m.data=y at *;refine' qzb8;generalize w.alloc (.cells m.cells 29)=V at *;have c0:=HF.out.m.cs.c0;refine' qzci;rw[k]at c0;clear k;refine' qzh;refine' qzr;clear hb c0 c22 c23;refine' qzj;exact⟨n0d HK.out.symm,HF.out.bel⟩
end L5
namespace Lu
open Ms Box An Tc J1 K1 Kb L1 L2 L5 L6 Lw Cx
open F1 (enc1 l0b encT)
open Bk (Bk b0a o0a loadVarK)
open Js (Lst j0c c0h z0a infoT rowT catJ flat)
open Hs Hy
open Go.Proofs.YtllhobicfclheaaGreatDoor.Or (p0a)
theorem o1i {B g:Nat}{w:World}{v:Value}{l:List ByteArray}{cs:Array Value}(h:Lst B w v l)(hg:Bk 74 w g cs):v.ownBlock≠some g:=by
 intro e
 rcases h.2 with⟨hv,_⟩|⟨k,cap,cur,hv,_,hk,_⟩
 · rw[hv]at e;cases e
 · rw[hv]at e
   injection e with e
   have e:k=g:=e;subst e;have hg:w.heap[k]?=some (.cells cs 74 (0,0)):=hg;rw[hk]at hg
   injection hg with hg
   injection hg with _ h1
   exact absurd h1 (by decide)
theorem y1l {B:Nat}{w:World}{v:Value}{l:List ByteArray}(h:Lst B w v l){p:Addr}(hg:v.ownBlock≠some p.block)(u:Value):Lst B (w.setCell p u) v l:=by
 refine⟨h.1,?_⟩
 rcases h.2 with h|⟨k,cap,cur,a,b,c,d⟩
 · exact .inl h
 · refine .inr ⟨k,cap,cur,a,b,(heap_setCell_other w p k u (fun e=>hg ?_)).trans c,d⟩
   rw[a,←e];rfl
theorem a1o {ops:Array Oper}{rest:List Oper}{o:Oper}{a:Act}{w:World}{Q:Exit→Act→World→Prop}(hgd:o.guard=none)(s x:Operand)
    (ho:o.op = .call { callee := .builtin .append,args:=#[s,x],argTypes:=#[174,174]}) (B:Nat) (v:Value) (l:List ByteArray) (m:ByteArray) (g c:Nat)
    (hs:a.eval s=v) (hown:Lst B w v l) (hx:a.eval x = .slice (some ⟨g,0,none⟩) 1 c) (hm:∀ j u,([Value.string m])[j]?=some u→w.cell? ((⟨g,0,none⟩:Addr).add j)=some u)
    (hl:l.length≤100000) (hB:B≤w.heap.size)
    (h:∀ v' w',Lst B w' v' (l ++ [m])→Below B w w'→(∀ k cs,Bk 74 w k cs→Bk 74 w' k cs)→w.heap.size≤w'.heap.size→wpList Tryz.prog ops Q rest (a.put o.dst v') w'):wpList Tryz.prog ops Q (o::rest) a w:=by
 obtain⟨i0,hi,hz,hsz,hby⟩:=infoT
 refine wpList_append_own w hgd s x 174 ho B 9 i0 (.string ByteArray.empty) 1 i0.bytes Tryz.underlying174 hi hz hsz rfl rfl (by decide) v l.length (rowT l) hs hown ⟨g,0,none⟩ 1 c [.string m] hx rfl hm ?_ (by unfold maxLen;omega) ?_ hB ?_
 · intro u hu;rw[List.mem_singleton]at hu;rw[hu];rfl
 · have:(l.length+1)*i0.bytes≤100001*4096:=Nat.mul_le_mul (by omega) hby
   omega
 · intro v' w' h2 h3 _
   refine h v' w' ?_ ((Below.refl B w).grown h3 hB (fun k hk=>(World.ownsRow.lt hown k hk).1)) (fun k cs hk=>(h3.block k hk.lt (fun e=>o1i hown hk e.symm)).trans hk) h3.size
   unfold Lst
   have e:rowT (l ++ [m])=rowT l ++ [.string m]:=by simp[rowT]
   rw[e,List.length_append];exact h2
def updP (c:Kx)(m:M):List ByteArray×Kx×Int:=if badC c m=true then([],c,9)else(elB (elsL c m),ctxL c m,0)
def tlvP (c:Kx)(m:M):List ByteArray×Kx×Int:=if okL m=true then updP c m else([],c,1)
theorem AnsW.said {p:List ByteArray×Kx×Int}{ls:List ByteArray}{cf:Kx}{er:Int}{w:World}{e:Ending}{w':World}(h:AnsW p w e w')(hp:p=(ls,cf,er)) :
    ∃ a k,e = .returned (.tuple #[.slice a ls.length k,.agg cf.cells,.int .i64 er])∧Lst w.heap.size w' (.slice a ls.length k) ls∧Below w.heap.size w w':=by
 subst hp;exact h
theorem q1c (c:Kx)(m:M):(elB (wayE c m)).length≤2:=by
 rw[j0v];unfold wayE;split
 · exact Nat.zero_le _
 · rw[List.length_append];split<;>split<;>simp
theorem b0h (c:Kx)(m:M)(w:World)(hm:m.In w)(ln:m.sl.length≤2000)(lb:∀ x∈m.sl,x.1.size≤1099511627776)(hc:okC c=true)(h:okU m=true):Calls Tryz.prog 299 #[.agg c.cells,.agg m.cells] w (AnsW (updP c m) w):=by
 have o:=(m0c m).1 h;obtain⟨a0,a1,_,_⟩:=q0b (r0b o.pfx).1;cases hb:badC c m;rotate_left
 · have HY:=Lib.hid (show updP c m=([],c,9) by unfold updP;rw[hb,if_pos rfl])
   have PW:=Lib.hid (fun V (y:m.In V)=>(m0p c m V y hc h).mono (fun e w' x=>AnsW.said (ls:=[]) (cf:=c) (er:=9) x (by unfold wayP;rw[hb,if_pos rfl])))
   clear hb hc h o a0 a1 ln lb;refine' qzi;refine' qz3w;refine' qz1a;refine' qz5u;rintro r w1 ⟨qa,qk,rfl,hl,hb⟩;refine' qz2a;clear hl hb PW
   go_upto_region 2 with(refine s0b (b:=w1.heap.size) (m:=Kx.zero) (m':=c) rfl _ _ rfl rfl rfl (Bk.Bk.new 74 w1 Kx.zero.cells) ?_)
   change Code.wp _ _ _ _ ((w1.alloc (.cells Kx.zero.cells 74)).setRow w1.heap.size (Kx.cells c));refine' qz33;have bel:=balloc (Below.refl w1.heap.size w1) (.cells (Kx.cells c) 74);refine' qz4i;have S1:=Lib.hid (Bk.Bk.new 74 w1 (Kx.cells c));refine' qzb;clear bel S1;generalize w1.alloc (.cells (Kx.cells c) 74)=V at *;refine' qzcn;refine' qz3g;refine' qz7d;refine H.tk (i:=0) (v := .agg (Kx.cells c)) ?h0x1u1 hS ?_
   case h0x1u1=>exact(fun w hw=>o0a shX (x := .tmp 2) rfl rfl hw rfl)
   refine' qz0;refine H.tk (i:=1) (v := .int .i64 9) ?h1x2u1 hS ?_
   case h1x2u1=>exact(fun w hw=>by go_simp)
   refine' qz0
   refine H.tk (i:=2) (v:=(Value.slice none 0 0)) (fun w _=>rfl) hS ?_
   refine' qz5;refine' qz27;refine' qz3b
   try simp only[Act.put]
   refine H.tk (i:=4) (v:=?v4x4u1) ?h4x4u1 hS ?_
   case h4x4u1=>(intro w hw;go_simp;first|done|(with_reducible rfl))
   refine' qz1;refine' qz7j
 have HLN:=Lib.hid (q1c c m)
 have PW:=Lib.hid (fun V (y:m.In V)=>(m0p c m V y hc h).mono (fun e w' x=>AnsW.said (ls:=elB (wayE c m)) (cf:=wayC c m) (er:=0) x (by unfold wayP;rw[hb,if_neg (by decide)])))
 have PU:=Lib.hid (fun V (y:m.In V)=>z1m c m V y ln lb hc h)
 have hy:updP c m=(elB (wayE c m) ++ [⟨(enc1 (updD m (omN c m),8)).toArray⟩],knowP (wayC c m) m,0):=by
  unfold updP elsL ctxL
  rw[hb,if_neg (by decide),if_pos o.kind,if_pos o.kind,f1o]
  rfl
 unfold knowP at hy
 obtain⟨k,hk⟩:∃ k:Nat,m.ae=k:=⟨m.ae.toNat,by omega⟩
 have hk4:k<4:=by omega
 clear hb hc h o a0 a1 ln lb;generalize (⟨(enc1 (updD m (omN c m),8)).toArray⟩:ByteArray)=x at *;generalize elB (wayE c m)=ls at *;generalize wayC c m=cw at *;by_cases h0:m.ae=0
 · rw[if_pos h0]at hy
   have e0:(m.ae==0)=true:=by simpa using h0
   have HY:=Lib.hid hy;have HK:=Lib.hid hk;clear hy hk h0;refine' qzi;refine' qz3w;refine' qz1a;have hzV:w.heap.size+1+1+1≤V.heap.size:=R0.out.lt;refine' qz5u;rintro r w1 ⟨qa,qk,rfl,hl,hb⟩;refine' qz2a;have hz1:=hb.size;have HL:=Lib.hid (Lst.mono hl hzV);clear hl hb PW;refine' qza4;refine' qz33;have bel:=balloc (Below.refl w1.heap.size w1) (.cells (Kx.cells cw) 74);refine' qz4i;have S1:=Lib.hid (Bk.Bk.new 74 w1 (Kx.cells cw));refine' qz4f;have hz2:=bel.size
   have hgz:w.heap.size+1+1<w1.heap.size:=by omega
   clear bel;generalize w1.alloc (.cells (Kx.cells cw) 74)=V2 at *;refine' qzcr;have hzg:=S1.out.lt;refine' qz5v;rintro r w3 ⟨rfl,hb⟩;refine' qz2a;have S1:=Lib.hid (S1.out.below hb);refine' qz7;have hz3:=hb.size;clear hb PU;have bel:=balloc (Below.refl w3.heap.size w3) (.cells #[.string x] 9);refine' qz4i;refine' qzb;have S1:=Lib.hid (S1.out.below bel);have HL:=Lib.hid (HL.out.below bel);have hz4:=bel.size;clear bel;refine' qz87;refine' qz3y;have S1:=Lib.hid (hs _ _ S1.out);obtain⟨l2,hl2⟩:∃ l,l=ls ++ [x]:=⟨_,rfl⟩;rw[←hl2]at hl;have HQ:=Lib.hid hl2;refine' qz7l;clear hl hb hs hz hl2 hz1 hz2 hz3 hz4 hzV hzg;have c5:=D.out.m0.cs.c5
   go_upto_region 7 with fail
   clear c5 e0;generalize w4=V at *
   have HY:=Lib.hid (show updP c m=(l2,cw,0) by rw[HY.out,HQ.out])
   refine' qz7z
   refine wp_region_held_drew (S:=fun X=>Bk 74 X g (Kx.cells cw)) (by kernel_rfl) (S1.out) (fun hS=>?_)
   refine' qz7d;refine H.tk (i:=0) (v := .slice qa l2.length qk) ?h0x1u2 hS ?_
   case h0x1u2=>exact(fun w hw=>by go_simp)
   refine' qz0;refine H.tk (i:=1) (v := .agg (Kx.cells cw)) ?h1x2u2 hS ?_
   case h1x2u2=>exact(fun w hw=>o0a shX (x := .tmp 8) rfl rfl hw rfl)
   refine' qz0;refine H.tk (i:=2) (v:=?v2x3u2) ?h2x3u2 hS ?_
   case h2x3u2=>(intro w hw;go_simp;first|done|(with_reducible rfl))
   refine' qz5;refine wp_store_row 74 _ _ rfl (w.heap.size+1+1) (Kx.cells cw) rfl rfl 74 Kx.zero.cells R0.out infoX rfl (oneX _) ?_;refine' qz79
   have hS:=(show Bk 74 (Z0.setRow (w.heap.size+1+1) (Kx.cells cw)) g (Kx.cells cw)from hS.row (by omega) _)
   refine' qz2s;refine' qz8v
   exact bodyPost_ret (v := .tuple #[.slice qa l2.length qk,.agg (Kx.cells cw),.int .i64 0]) (l0c (ty:=74) rfl _ _ (w.heap.size+1+1) (.agg (Kx.cells cw)) (.slice qa l2.length qk) rfl rfl (loadVarK shX (R0.out.put (Kx.cells cw)) rfl) (.int .i64 0) rfl) rfl (by rw[HY.out];exact⟨qa,qk,rfl,(HL.out.under (by omega) _).mono (by omega),Box.below_setRow HB.out (by omega) _⟩)
 rw[if_neg h0]at hy
 have e0:(m.ae==0)=false:=by simpa using h0
 have HY:=Lib.hid hy;have HK:=Lib.hid hk;clear hy hk h0;refine' qzi;refine' qz3w;refine' qz1a;have hzV:w.heap.size+1+1+1≤V.heap.size:=R0.out.lt;refine' qz5u;rintro r w1 ⟨qa,qk,rfl,hl,hb⟩;refine' qz2a;have hz1:=hb.size;have HL:=Lib.hid (Lst.mono hl hzV);clear hl hb PW;refine' qza4;refine' qz33;have bel:=balloc (Below.refl w1.heap.size w1) (.cells (Kx.cells cw) 74);refine' qz4i;have S1:=Lib.hid (Bk.Bk.new 74 w1 (Kx.cells cw));refine' qz4f;have hz2:=bel.size
 have hgz:w.heap.size+1+1<w1.heap.size:=by omega
 clear bel;generalize w1.alloc (.cells (Kx.cells cw) 74)=V2 at *;refine' qzcr;have hzg:=S1.out.lt;refine' qz5v;rintro r w3 ⟨rfl,hb⟩;refine' qz2a;have S1:=Lib.hid (S1.out.below hb);refine' qz7;have hz3:=hb.size;clear hb PU;have bel:=balloc (Below.refl w3.heap.size w3) (.cells #[.string x] 9);refine' qz4i;refine' qzb;have S1:=Lib.hid (S1.out.below bel);have HL:=Lib.hid (HL.out.below bel);have hz4:=bel.size;clear bel;refine' qz87;refine' qz3y;have S1:=Lib.hid (hs _ _ S1.out);obtain⟨l2,hl2⟩:∃ l,l=ls ++ [x]:=⟨_,rfl⟩;rw[←hl2]at hl;have HQ:=Lib.hid hl2;refine' qz7l;clear hl hb hs hz hl2 hz1 hz2 hz3 hz4 hzV hzg;have c5:=D.out.m0.cs.c5;have c6:=D.out.m0.cs.c6;have d:=z1o S1.out hk4;have fd:=S1.out.frozen k;rw[HK.out]at c5 e0
 go_upto_region 7 with(first|(refine p0a (v := .pointer (some ⟨g,k,none⟩)) (by rfl) rfl (f0e rfl rfl rfl (v1g g k hk4 _)) ?_))
 have hob:=o1i HL.out S1.out
 have XB:=D.out.bel.setCell (p:=⟨g,k,none⟩) (by show w.heap.size≤g;omega) (.string m.pfx)
 have D:=Lib.hid (show Us w c m (w4.setCell ⟨g,k,none⟩ (.string m.pfx))from⟨D.out.s0.off (p:=⟨g,k,none⟩) (by show w.heap.size≠g;omega) _,D.out.m0.off (p:=⟨g,k,none⟩) (by show w.heap.size+1≠g;omega) _,D.out.i0,XB⟩)
 have R0:=Lib.hid (R0.out.off (p:=⟨g,k,none⟩) (by show w.heap.size+1+1≠g;omega) (.string m.pfx))
 have HL:=Lib.hid (y1l HL.out (p:=⟨g,k,none⟩) hob (.string m.pfx));have S1:=Lib.hid (S1.out.set (i:=k) (v := .string m.pfx) (cs':=Kx.cells (cw.setP k m.pfx)) (s1l _ _ hk4));clear hob XB c5 c6 d fd e0;generalize w4.setCell ⟨g,k,none⟩ (.string m.pfx)=V at *
 have HY:=Lib.hid (show updP c m=(l2,cw.setP k m.pfx,0) by rw[HY.out,HQ.out,HK.out])
 refine' qz7z
 refine wp_region_held_drew (S:=fun X=>Bk 74 X g (Kx.cells (cw.setP k m.pfx))) (by kernel_rfl) (S1.out) (fun hS=>?_)
 refine' qz7d;refine H.tk (i:=0) (v := .slice qa l2.length qk) ?h0x1u3 hS ?_
 case h0x1u3=>exact(fun w hw=>by go_simp)
 refine' qz0;refine H.tk (i:=1) (v := .agg (Kx.cells (cw.setP k m.pfx))) ?h1x2u3 hS ?_
 case h1x2u3=>exact(fun w hw=>o0a shX (x := .tmp 8) rfl rfl hw rfl)
 refine' qz0;refine H.tk (i:=2) (v:=?v2x3u3) ?h2x3u3 hS ?_
 case h2x3u3=>(intro w hw;go_simp;first|done|(with_reducible rfl))
 refine' qz5;refine wp_store_row 74 _ _ rfl (w.heap.size+1+1) (Kx.cells (cw.setP k m.pfx)) rfl rfl 74 Kx.zero.cells R0.out infoX rfl (oneX _) ?_;refine' qz79
 have hS:=(show Bk 74 (Z0.setRow (w.heap.size+1+1) (Kx.cells (cw.setP k m.pfx))) g (Kx.cells (cw.setP k m.pfx))from hS.row (by omega) _)
 refine' qz2s;refine' qz8v
 exact bodyPost_ret (v := .tuple #[.slice qa l2.length qk,.agg (Kx.cells (cw.setP k m.pfx)),.int .i64 0]) (l0c (ty:=74) rfl _ _ (w.heap.size+1+1) (.agg (Kx.cells (cw.setP k m.pfx))) (.slice qa l2.length qk) rfl rfl (loadVarK shX (R0.out.put (Kx.cells (cw.setP k m.pfx))) rfl) (.int .i64 0) rfl) rfl (by rw[HY.out];exact⟨qa,qk,rfl,(HL.out.under (by omega) _).mono (by omega),Box.below_setRow HB.out (by omega) _⟩)
end Lu
end Go.Proofs.YtllhobicfclheaaGreatDoor
