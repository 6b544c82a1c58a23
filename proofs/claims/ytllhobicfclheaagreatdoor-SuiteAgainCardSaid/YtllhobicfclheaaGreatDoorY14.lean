/-
  A part of a proof. No conditions.
-/
import Derived.Test.YtllhobicfclheaaGreatDoorY13
namespace Go.Proofs.YtllhobicfclheaaGreatDoor
open Go.ChangeShapes Go.WideShapes Go.ChangeAt Go.RowKit
set_option linter.unusedVariables false
set_option maxRecDepth 100000
set_option maxHeartbeats 51200000
namespace NPa
open Ms Box NRp NRt Hs Hx Ap NSt NTk All
open Bk (E Bk Sh shE q0a loadVarK d0a f0a a0a o0a)
open Go.Proofs.YtllhobicfclheaaGreatDoor.Or (p0a)
def stN (nx:ByteArray)(e:E):ByteArray:=if e.met=255 then nx1 e else nx
def stL (c:Int)(nx:ByteArray)(e:E)(l:List M):List M:=l++if e.met=255 then []else [routeM c nx e]
theorem take_any (B b:Nat)(c:Int)(nx:ByteArray)(l:List M)(e:E)(w:World)(h:Rdr B b c nx l w)(hB:B≤w.heap.size)(hl:l.length≤100000) :
    Calls Tryz.prog 95 #[.pointer (some ⟨b,0,none⟩),.agg e.cells] w fun r w'=>r = .returned (.int .i64 (ckE e))∧(ckE e=0→Rdr B b c (stN nx e) (stL c nx e l) w')∧Below B w w':=by
 obtain⟨b0,bel⟩:=boxE w e;have hr:=h.below bel;replace bel:=bel.mono hB;have hsz:=Bk.b0a w (.cells e.cells 59);refine' qzc2
 have hBV:B≤V.heap.size:=by omega
 have P1:=Lib.hid (z0o B b c nx l e V hr hBV);have P2:=Lib.hid (y0h B b c nx l e V hr hBV hl);have c5:=(ec b0).c5;have B0:=Lib.hid b0;clear b0 h hr;by_cases hm:e.met=255
 · have HE:=Lib.hid (show ckE e=ckHop e by unfold ckE;rw[if_pos hm])
   have HN:=Lib.hid (show ckHop e=0→stN nx e=hopN nx e by intro h;rw[d0y nx e h];unfold stN;rw[if_pos hm])
   have HL:=Lib.hid (show stL c nx e l=l by unfold stL;rw[if_pos hm,List.append_nil])
   have e1:(e.met==255)=true:=by simpa using hm
   clear hm P2
   go_wp2_with (first|(refine f0a (b:=w.heap.size) shE rfl _ rfl rfl B0.out rfl ?_))
   refine P1.out.mono ?_;rintro r w1 ⟨rfl,hr,hb⟩;have HR:=Lib.hid hr;replace bel:=bel.trans hb;clear hb hr c5;refine' qzj
   exact⟨int_eq HE.out.symm,fun h=>by rw[HL.out,HN.out (HE.out▸h)];exact HR.out,bel⟩
 · have HE:=Lib.hid (show ckE e=ckRte e by unfold ckE;rw[if_neg hm])
   have HN:=Lib.hid (show stN nx e=nx by unfold stN;rw[if_neg hm])
   have HL:=Lib.hid (show ckRte e=0→stL c nx e l=rteL c nx e l by intro h;rw[p0w c nx e l h];unfold stL;rw[if_neg hm])
   have e1:(e.met==255)=false:=by simpa using hm
   clear hm P1
   go_wp2_with (first|(refine f0a (b:=w.heap.size) shE rfl _ rfl rfl B0.out rfl ?_))
   refine P2.out.mono ?_;rintro r w1 ⟨rfl,hr,hb⟩;have HR:=Lib.hid hr;replace bel:=bel.trans hb;clear hb hr c5;refine' qzj
   exact⟨int_eq HE.out.symm,fun h=>by rw[HN.out,HL.out (HE.out▸h)];exact HR.out,bel⟩
def Ans (p:List M×Int×Int)(w:World)(e:Ending)(w':World):Prop:=
  ∃ a c,e = .returned (.tuple #[.slice a p.1.length c,.int .i64 p.2.1,.int .i64 p.2.2])∧MRow w' a p.1∧Below w.heap.size w w'
theorem Ans.no {p:List M×Int×Int}{w w':World}{c d:Int}(h:p=([],c,d))(hb:Below w.heap.size w w'):Ans p w (.returned (.tuple #[.slice none 0 0,.int .i64 c,.int .i64 d])) w':=by
 subst h;exact⟨none,0,rfl,MRow.nil _ _,hb⟩
theorem Ans.yes {p:List M×Int×Int}{w w':World}{a:Option Addr}{c n:Nat}{l:List M}(h:p=(l,0,0))(hn:l.length=n)(hl:MRow w' a l)(hb:Below w.heap.size w w'):Ans p w (.returned (.tuple #[.slice a n c,.int .i64 0,.int .i64 0])) w':=by
 subst h hn;exact⟨a,c,rfl,hl,hb⟩
theorem g0k (b:ByteArray)(k:Nat):Flat (rts b k):=fun m hm=>by
  have:=n0q _ _ _ m hm
  exact⟨this.1,this.2.1⟩
theorem shR:Sh Tryz.prog 94 3:=⟨_,Tryz.underlying94,by kernel_rfl⟩
theorem o1p (b:ByteArray)(p:Nat)(h:p+20≤b.size):(b.extract p (p+20)).size=20:=by simp;omega
theorem c1h {b:ByteArray}{k:Nat}(h:∀ i,i<k→ckI b i=0)(hc:ckI b k=0):∀ i,i<k+1→ckI b i=0:=fun i hi=>by
  by_cases hik:i<k
  · exact h i hik
  · obtain rfl:i=k:=by omega
    exact hc
theorem n0c (b:ByteArray)(w:World)(hs:b.size≤1048576):Calls Tryz.prog 35 #[.string b] w (Ans (out b) w):=by
 have P1:=Lib.hid (fun W=>q0c b W hs)
 by_cases h1:(hdAt b).2=0;rotate_left
 · have HZ:Hid (out b=([],(hdAt b).1,(hdAt b).2)):=Lib.hid (by unfold out;rw[if_pos h1])
   have e1:((hdAt b).2==0)=false:=by simpa using h1
   have e2:((hdAt b).2 != 0)=true:=by rw[bne,e1];rfl
   clear h1;generalize (hdAt b).2=x at *;generalize (hdAt b).1=y at *;go_in;refine' qz2q;refine' qz5w;exact Ans.no HZ.out (Below.refl _ _)
 obtain⟨h65,h4,_,_,_,h20⟩:=z0p h1
 have HO:=Lib.hid (show out b=ents b ((b.size - 4) / 20) by unfold out;rw[if_neg (by simpa using h1)])
 rw[h1]at P1;clear h1
 obtain⟨n,hn⟩:∃ n,b.size=4+20*n:=⟨(b.size - 4) / 20,by omega⟩
 rw[show(b.size - 4) / 20=n by omega]at HO
 have j0:=idx b 0 0 rfl (by omega)
 have v0:=i0e (bt b 0) (d0b _ _) (o0b _ _)
 have HR0:=Lib.hid (show Rdr w.heap.size w.heap.size (bt b 0) (nxK b 0) (rts b 0) (w.alloc (.cells #[.int .i64 (bt b 0),.string ⟨#[0,0,0,0,0,0,0,0,0,0,0,0,0,0,0,0]⟩,.slice none 0 0] 94))from⟨Nat.le_refl _,.slice none 0 0,Bk.Bk.new _ w _,Lst.nil _ _⟩)
 generalize hc0:bt b 0=c0 at *;generalize (hdAt b).1=y at *;go_in;refine' qz2q;clear P1;have HN:=Lib.hid hn;have HC0:=Lib.hid hc0;clear hc0 hn h20 h4
 go_upto_region 5 with(first|(refine d0a rfl 94 _ rfl #[.int .i64 c0,.string ⟨#[0,0,0,0,0,0,0,0,0,0,0,0,0,0,0,0]⟩,.slice none 0 0] (by kernel_rfl) ?_)|(refine a0a (b:=w.heap.size) shR rfl _ _ rfl rfl rfl (Bk.Bk.new 94 w #[.int .i64 0,.string ⟨#[]⟩,.slice none 0 0]) rfl rfl rfl ?_))
 have HB0:=Lib.hid (balloc (Below.refl _ w) (.cells #[.int .i64 c0,.string ⟨#[0,0,0,0,0,0,0,0,0,0,0,0,0,0,0,0]⟩,.slice none 0 0] 94));generalize w.alloc _=V at *;clear j0 v0;refine' qzcp
 go_loopw [8] (fun i wr=>∃ k:Nat,k≤n∧i = .int .i64 ((4+20*k:Nat):Int)∧Hid (Rdr w.heap.size w.heap.size c0 (nxK b k) (rts b k) wr)∧Hid (∀ i,i<k→ckI b i=0)∧Hid (Below w.heap.size w wr)) (fun i _=>b.size - (intOf i).toNat)
 case atStart=>exact⟨0,Nat.zero_le _,rfl,HR0,Lib.hid (fun i hi=>absurd hi (by omega)),HB0⟩
 case round=>
  obtain⟨k,hk,rfl,HL,HK,HB⟩:=hrel;clear HR0 HB0;by_cases hlt:k<n
  · have HS:=Lib.hid (fun hz=>o0l (b:=b) (n:=n) hlt HK.out hz)
    have HJ:=Lib.hid (fun hc=>c1h HK.out hc)
    have HNx:=Lib.hid (show nxK b (k+1)=stN (nxK b k) (entP b (4+20*k))from i1g b k)
    have HRt:=Lib.hid (show rts b (k+1)=stL c0 (nxK b k) (entP b (4+20*k)) (rts b k) by rw[←HC0.out];exact o0q b k)
    have HP:Hid (((4+20*(k+1):Nat):Int)=((4+20*k:Nat):Int)+20):=Lib.hid (by omega)
    have hp:4+20*k+20≤b.size:=by have:=HN.out;omega
    have HM:Hid (b.size - ((4+20*k:Nat):Int).toNat>b.size - (((4+20*k:Nat):Int)+20).toNat):=Lib.hid (by omega)
    have HL1:Hid ((rts b k).length≤100000):=Lib.hid (by have:=q0g b k;have:=HN.out;omega)
    have HCk:Hid (ckI b k=ckE (entP b (4+20*k))):=Lib.hid rfl;clear hk HK;generalize ckI b k=ck at *;generalize hq:4+20*k=p at *;clear hq
    have sl:=Rte.sl_m b (p:Int) ((p:Int)+20) p (p+20) rfl (by omega) (by omega) hp
    have PG:Hid (∀ W,Calls Tryz.prog 94 #[.string (b.extract p (p+20))] W fun e w'=>e = .returned (.tuple #[.agg (entP b p).cells,.bool true])∧Below W.heap.size W w'):=Lib.hid (fun W=>Rte.p0u _ W (o1p b p hp))
    generalize entP b p=x at *;generalize nxK b k=nx at *;generalize rts b k=lk at *;refine' qz7a;refine' qz75;refine' qz8;clear hb PG sl
    go_upto_region 9 with(first|(refine a0a (b:=w1.heap.size) shE rfl _ _ rfl rfl rfl (Bk.Bk.new 59 w1 E.zero.cells) rfl rfl (E.one x) ?_))
    change Code.wp _ _ _ _ ((w1.alloc (.cells E.zero.cells 59)).setRow w1.heap.size x.cells);refine' qz33;have HL:=Lib.hid (HL.out.below (balloc (Below.refl _ w1) (.cells x.cells 59)));have HB:=Lib.hid (balloc HB.out (.cells x.cells 59));have HX:=Lib.hid (Bk.Bk.new 59 w1 x.cells);generalize w1.alloc (.cells x.cells 59)=W2 at *;refine' qzcr
    go_wp2_with (first|(refine f0a (b:=g) shE rfl _ rfl rfl HX.out rfl ?_))
    refine(take_any w.heap.size w.heap.size c0 nx lk x _ HL.out HB.out.size HL1.out).mono ?_;rintro e w3 ⟨rfl,hr,hb⟩;have HR:=Lib.hid hr;have HB:=Lib.hid (HB.out.trans hb);clear hb hr HX HL;rw[←HCk.out]at *;by_cases hc:ck=0;rotate_left
    · have HC:=Lib.hid (HS.out hc)
      have e1:(ck==0)=false:=by simpa using hc
      have e2:(ck != 0)=true:=by rw[bne,e1];rfl
      clear hc HS HR;refine' qz5w;exact Ans.no (HO.out.trans HC.out) HB.out
    · have HK1:=Lib.hid (HJ.out hc)
      have HL:=Lib.hid (show Rdr w.heap.size w.heap.size c0 (nxK b (k+1)) (rts b (k+1)) w3 by rw[HNx.out,HRt.out];exact HR.out (by rw[←HCk.out];exact hc))
      subst hc;clear HS HR HJ HNx HRt;go_wp2;go_roundw
      case rel=>exact⟨k+1,hlt,by rw[HP.out],HL,HK1,HB⟩
      case measure=>have:=HM.out;simp only[intOf];omega
  · obtain rfl:k=n:=by omega
    have HE:=Lib.hid (HO.out.trans (a0f HK.out));obtain⟨_,v,hrd,hown⟩:=HL.out;obtain⟨va,vc,rfl⟩:=b0d hown;have HW:=Lib.hid (hown.row (g0k b k));have cR:=hrd.cell 2 _ rfl
    have hge:¬((4+20*k:Nat):Int)<(b.size:Int):=by have:=HN.out;omega
    have hge2:decide (((4+20*k:Nat):Int)<(b.size:Int))=false:=decide_eq_false hge;clear hlt hk hrd hown HL;generalize 4+20*k=p at *;have hHL:Hid ((rts b k).length=(rts b k).length):=Lib.hid rfl;by_cases hz:(rts b k).length=0
    · have HZ:=Lib.hid (HE.out.trans (if_pos hz))
      have e1:(((rts b k).length:Int)==0)=true:=by rw[beq_iff_eq];omega
      clear hHL HW HE;generalize (rts b k).length=len at *;refine' qz5w;exact Ans.no HZ.out HB.out
    · have HZ:=Lib.hid (HE.out.trans (if_neg hz))
      have e1:(((rts b k).length:Int)==0)=false:=by rw[beq_eq_false_iff_ne];omega
      have e2:(((rts b k).length:Int) != 0)=true:=by rw[bne,e1];rfl
      clear hHL HE;generalize hln:(rts b k).length=len at *;have HLn:=Lib.hid hln;clear hln;refine' qz5w;exact Ans.yes HZ.out HLn.out HW.out HB.out
end NPa
namespace Rr
open Ms Box Rp Ps Ck Ap All
open Bk (E Bk shE f0a a0a)
open Go.Proofs.YtllhobicfclheaaGreatDoor.Or (p0a)
def Ans (p:List M×Int×Int)(w:World)(e:Ending)(w':World):Prop:=
  ∃ a c,e = .returned (.tuple #[.slice a p.1.length c,.int .i64 p.2.1,.int .i64 p.2.2])∧MRow w' a p.1∧Below w.heap.size w w'
theorem g0k (h:M)(b:ByteArray)(p k:Nat)(h1:h.ll = [])(h2:h.sl = []):Flat (rts h b p k):=by
 intro m hm;simp only[rts,List.mem_map]at hm;obtain⟨i,_,rfl⟩:=hm;exact⟨h1,h2⟩
theorem Ans.no {p:List M×Int×Int}{w w':World}{c d:Int}(h:p=([],c,d))(hb:Below w.heap.size w w'):Ans p w (.returned (.tuple #[.slice none 0 0,.int .i64 c,.int .i64 d])) w':=by
 subst h;exact⟨none,0,rfl,MRow.nil _ _,hb⟩
theorem Ans.yes {p:List M×Int×Int}{w w':World}{a:Option Addr}{c:Nat}{l:List M}(h:p=(l,0,0))(hl:MRow w' a l)(hb:Below w.heap.size w w'):Ans p w (.returned (.tuple #[.slice a l.length c,.int .i64 0,.int .i64 0])) w':=by
 subst h;exact⟨a,c,rfl,hl,hb⟩
structure L (w wr:World)(h:M)(v:Value)(l:List M):Prop where
  hd:Bx wr w.heap.size h
  own:Lst (w.heap.size+1) wr v l
  bel:Below w.heap.size w wr
theorem L.call {w wr w':World}{h:M}{v:Value}{l:List M}(g:L w wr h v l)(hb:Below wr.heap.size wr w'):L w w' h v l:=⟨g.hd.below hb,g.own.below hb,g.bel.trans (hb.mono g.bel.size)⟩
theorem L.sz {w wr:World}{h:M}{v:Value}{l:List M}(g:L w wr h v l):w.heap.size+1≤wr.heap.size:=g.hd.lt
theorem i1d (b:ByteArray)(h:M)(p0 n:Nat)(w:World)(hl:h.ll = [])(hsl:h.sl = [])(hla:h.la=none)(hsa:h.sa=none)(hs:b.size≤1048576)(hn:b.size=p0+20*n)(hn1:n≤100) :
    Calls Tryz.prog 83 #[.agg h.cells,.string b,.int .i64 (p0:Nat)] w (Ans (ents h b p0 n (decide (p0+20=b.size))) w):=by
 have hi:∀ w,h.In w:=fun w=>⟨by rw[hl];exact DRow.nil _ _,by rw[hsl];exact SRow.nil _ _,by rw[hl];simp,by rw[hsl];simp⟩
 have PG:=Lib.hid (fun(s:ByteArray) (hz:s.size=20) W=>Ent.p0u s W hz)
 have PE:=Lib.hid (fun(e:E) (a:Bool) W (he:E4 e)=>b1k h e a W he hi)
 have PR:=Lib.hid (fun(e:E) W (he:E4 e)=>n0v h e W he)
 obtain⟨b0,bel⟩:=PRt.boxed w h;have H0:Hid (L w (w.alloc (.cells h.cells 29)) h (.slice none 0 0) []):=Lib.hid ⟨b0,Lst.nil _ _,bel⟩
 have HF:=Lib.hid (fun k=>g0k h b p0 k hl hsl)
 clear hi b0 bel hl hsl hla hsa;have HN:=Lib.hid hn
 have hp0:p0≤1048576:=by omega
 have ha1:((p0:Int)+20==(b.size:Int))=decide (p0+20=b.size):=by rw[Bool.eq_iff_iff,beq_iff_eq,decide_eq_true_iff];omega
 generalize decide (p0+20=b.size)=al at *;refine' qzi;generalize w.alloc (.cells h.cells 29)=V at *;clear hn;refine' qzcn;clear ha1
 go_loopw [2,10] (fun i v wr=>∃ k:Nat,k≤n∧i = .int .i64 ((p0+20*k:Nat):Int)∧Hid (L w wr h v (rts h b p0 k))∧Hid (∀ i,i<k→ckE h (entP b (p0+20*i)) al=0)) (fun i _ _=>b.size - (intOf i).toNat)
 case atStart=>exact⟨0,Nat.zero_le _,rfl,H0,Lib.hid (fun i hi=>absurd hi (by omega))⟩
 case round=>
  obtain⟨k,hk,rfl,HL,HK⟩:=hrel;by_cases hlt:k<n
  · have HS:=Lib.hid (fun hz=>o0l (h:=h) (b:=b) (p:=p0) (n:=n) (alone:=al) hlt HK.out hz)
    have HR:=Lib.hid (o0q h b p0 k)
    have HJ:=Lib.hid (fun(hc:ckE h (entP b (p0+20*k)) al=0)=>show ∀ i,i<k+1→ckE h (entP b (p0+20*i)) al=0 from fun i hi=>by
     by_cases hik:i<k
     ·
      exact HK.out i hik
     ·
      obtain rfl:i=k:=by omega
      exact hc)
    have HP:Hid (((p0+20*(k+1):Nat):Int)=((p0+20*k:Nat):Int)+20):=Lib.hid (by omega)
    have hp:p0+20*k+20≤b.size:=by have:=HN.out;omega
    have HM:Hid (b.size - ((p0+20*k:Nat):Int).toNat>b.size - (((p0+20*k:Nat):Int)+20).toNat):=Lib.hid (by omega)
    have hk1:(rts h b p0 k).length≤100000:=by rw[q0g];omega
    have HL1:=Lib.hid hk1;clear hk hk1 hp0;generalize hq:p0+20*k=p at *;clear hq
    have sl:=Ent.sl_m b (p:Int) ((p:Int)+20) p (p+20) rfl (by omega) (by omega) hp
    have hz:(b.extract p (p+20)).size=20:=by simp;omega
    have he:Hid (E4 (entP b p)):=Lib.hid (ent4 _ hz)
    have PG1:Hid (∀ W,Calls Tryz.prog 154 #[.string (b.extract p (p+20))] W fun e w'=>e = .returned (.tuple #[.agg (entP b p).cells,.bool true])∧Below W.heap.size W w'):=Lib.hid (fun W=>PG.out _ hz W)
    clear hz PG;generalize entP b p=x at *;refine' qzg;refine(PG1.out _).mono ?_;refine' qz75;have HL:=Lib.hid (HL.out.call hb);clear hb PG1 sl
    go_upto_region 6 with(first|(refine a0a (b:=w1.heap.size) shE rfl _ _ rfl rfl rfl (Bk.Bk.new 59 w1 E.zero.cells) rfl rfl (E.one x) ?_))
    have HL:=Lib.hid (HL.out.call ((Below.refl w1.heap.size w1).alloc (Nat.le_refl _) (.cells x.cells 59)));have HX:=Lib.hid (Bk.Bk.new 59 w1 x.cells);change Code.wp _ _ _ _ ((w1.alloc (.cells E.zero.cells 59)).setRow w1.heap.size x.cells);refine' qz33;generalize w1.alloc _=W2 at *;refine' qzcr
    go_wp2_with (first|(refine j0a (b:=w.heap.size) (m:=h) rfl _ rfl rfl HL.out.hd ?_)|(refine f0a (b:=g) shE rfl _ rfl rfl HX.out rfl ?_))
    refine(PE.out x al _ he.out).mono ?_;refine' qzct;have HL:=Lib.hid (HL.out.call hb);have HX:=Lib.hid (HX.out.below hb);clear hb;by_cases hc:ckE h x al=0;rotate_left
    · have HC:=Lib.hid (HS.out hc)
      have e1:(ckE h x al==0)=false:=by simpa using hc
      have e2:(ckE h x al != 0)=true:=by rw[bne,e1];rfl
      clear hc HS;generalize ckE h x al=c at *;refine' qz5w;exact Ans.no HC.out HL.out.bel
    · have HK1:=Lib.hid (HJ.out hc);rw[hc];clear hc HS
      go_upto_region 9 with fail
      go_wp2_with (first|(refine j0a (b:=w.heap.size) (m:=h) rfl _ rfl rfl HL.out.hd ?_)|(refine f0a (b:=g) shE rfl _ rfl rfl HX.out rfl ?_))
      refine(PR.out x _ he.out).mono ?_;rintro e w4 ⟨rfl,hb⟩;have HL:=Lib.hid (HL.out.call hb);have HL2:=Lib.hid (HL.out.call ((Below.refl w4.heap.size w4).alloc (Nat.le_refl _) (.cells (routeM h x).cells 29)));have HC:=Lib.hid (z0a (routeM h x) w4);clear hb HX HL
      go_wp2_with (first|(refine j0c rfl _ rfl (m:=routeM h x) rfl ?_)|(at_builtin;refine f0d rfl _ _ rfl (w.heap.size+1) _ _ (routeM h x) _ _ rfl HL2.out.own rfl HC.out HL1.out ?c1 ?_))
      case c1=>exact HL2.out.sz
      intro v' w5 hown hb hsz
      have HL:=Lib.hid (show L w w5 h v' (rts h b p0 (k+1))from⟨(hb.block _ (Nat.lt_succ_self _)).trans HL2.out.hd,by rw[HR.out];exact hown,HL2.out.bel.trans (hb.mono (by omega))⟩)
      clear hown hb hsz HC HL2 HR;go_wp2;go_roundw
      case rel=>exact⟨k+1,hlt,by rw[HP.out],HL,HK1⟩
      case measure=>have:=HM.out;simp only[intOf];omega
  · obtain rfl:k=n:=by omega
    have HE:=Lib.hid (show ents h b p0 k al=(rts h b p0 k,0,0)from a0f HK.out)
    obtain⟨a,c,rfl⟩:=HL.out.own.slice;have HW:=Lib.hid (HL.out.own.row (HF.out k))
    have hge:¬((p0+20*k:Nat):Int)<(b.size:Int):=by have:=HN.out;omega
    have hge2:decide (((p0+20*k:Nat):Int)<(b.size:Int))=false:=decide_eq_false hge;clear hlt hk;generalize hq:p0+20*k=p at *;clear hq;refine' qz5w;exact Ans.yes HE.out HW.out HL.out.bel
end Rr
namespace Nu
open Cur Oct
theorem n0a (s:ByteArray)(a b:Nat):(s.extract a b).data.toList=(s.data.toList.drop a).take (b - a):=by
 simp[ByteArray.data_extract,List.extract_eq_take_drop]
def layN (v:Int)(n:Nat):List UInt8:=if fitsB v n then be v.toNat n else []
theorem i0a (v:Int)(n:Nat):(layN v n).length≤n:=by unfold layN;split<;>simp[j0d]
theorem s0c (v:Int)(n:Nat)(ni:Int)(hni:ni=n)(h1:1≤n)(h7:n≤7)(w:World) :
    Calls Tryz.prog 195 #[.int .i64 v,.int .i64 ni] w fun e w'=>e = .returned (.tuple #[.string ⟨(layN v n).toArray⟩,.bool (fitsB v n)])∧Below w.heap.size w w':=by
 refine' qz5e
theorem a0i (l:List UInt8):∀ n:Nat,l.foldl (fun n c=>n*256+c.toNat) n=n*256 ^ l.length+numL l:=by
 refine' qzdb
theorem f0i (c:UInt8)(l:List UInt8):numL (c::l)=c.toNat*256 ^ l.length+numL l:=by
 unfold numL;rw[List.foldl_cons,a0i,Nat.zero_mul,Nat.zero_add];rfl
theorem s0h (n:Nat):∀ k,numL (be n k)=n%pw k:=by
 refine' qz3s
theorem f0k:∀ {a b:List UInt8},a.length=b.length→numL a=numL b→a=b:=by
 intro a
 induction a with
 | nil=>intro b h _;cases b with
  | nil=>rfl
  | cons _ _=>simp at h
 | cons c a ih=>
  intro b h e
  cases b with
  | nil=>simp at h
  | cons d b=>
   have hl:a.length=b.length:=by simpa using h
   rw[f0i,f0i,hl]at e;have h1:=r0h a;have h2:=r0h b;rw[hl]at h1
   have hp:0<256 ^ b.length:=Nat.pow_pos (by decide)
   have hq:=congrArg (· / 256 ^ b.length) e;simp only[Nat.mul_comm _ (256 ^ b.length),Nat.mul_add_div hp,Nat.div_eq_of_lt h1,Nat.div_eq_of_lt h2,Nat.add_zero]at hq;have hc:c=d:=UInt8.toNat_inj.1 hq;subst hc
   rw[ih hl (by omega)]
theorem k0m (l:List UInt8)(k:Nat)(h:l.length=k):be (numL l) k=l:=by
 refine f0k (by rw[j0d,h]) ?_
 rw[s0h,Nat.mod_eq_of_lt];have:=r0h l;rw[h]at this;exact this
theorem b0e (l:List UInt8)(k:Nat)(h:l.length=k)(h1:1≤k)(h7:k≤7):fitsB (numL l) k=true∧layN (numL l) k=l:=by
 refine' qz60;unfold layN;rw[if_pos hf,Int.toNat_natCast,k0m l k h]
theorem r0d (v:Int)(k:Nat)(hf:fitsB v k=true):((numL (layN v k):Nat):Int)=v∧(layN v k).length=k:=by
 obtain⟨_,_,h0,h1⟩:=(e0b v k).1 hf;unfold layN;rw[if_pos hf,s0h,j0d];obtain⟨n,rfl⟩:=Int.eq_ofNat_of_zero_le h0
 have:n<pw k:=by simpa using h1
 rw[Int.toNat_natCast,Nat.mod_eq_of_lt this];exact⟨rfl,rfl⟩
theorem k0a {a b:ByteArray}(h:a.data.toList=b.data.toList):a=b:=ByteArray.ext (Array.toList_inj.1 h)
theorem s0a {v:Int}{k:Nat}(hf:fitsB v k=true):(layN v k).length=k:=(r0d v k hf).2
theorem c0f {v:Int}{k:Nat}(hf:fitsB v k=true):((numL (layN v k):Nat):Int)=v:=(r0d v k hf).1
theorem v0f (l:List UInt8)(k:Nat)(h:l.length=k)(h1:1≤k)(h7:k≤7):fitsB (numL l) k=true:=(b0e l k h h1 h7).1
theorem x0k (l:List UInt8)(k:Nat)(h:l.length=k)(h1:1≤k)(h7:k≤7):layN (numL l) k=l:=(b0e l k h h1 h7).2
end Nu
end Go.Proofs.YtllhobicfclheaaGreatDoor
