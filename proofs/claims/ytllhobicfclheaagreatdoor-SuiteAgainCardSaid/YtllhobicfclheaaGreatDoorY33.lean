/-
  A part of a proof. No conditions.
-/
import Derived.Test.YtllhobicfclheaaGreatDoorY32
namespace Go.Proofs.YtllhobicfclheaaGreatDoor
open Go.ChangeShapes Go.WideShapes Go.ChangeAt Go.RowKit
set_option linter.unusedVariables false
set_option maxRecDepth 100000
set_option maxHeartbeats 51200000
namespace S3
open Ms Cnt S1 S2
open F1 (enc1 encT m0b u0i l0b putB putO w0e)
open F6 (PutIs)
open Sx (cellsS)
open Sb (Bld)
open Bk (Bk)
theorem t0b {s t:ByteArray}{b c:Bool}(h:s=t)(k:b=c):Ending.returned (.tuple #[.string s,.bool b]) = .returned (.tuple #[.string t,.bool c]):=by rw[h,k]
theorem d0q (l:List El)(k:Nat)(h:k<l.length):encT (l.take (k+1))=encT (l.take k)++enc1 l[k]:=by
 rw[List.take_succ_eq_append_getElem h,u0i]
theorem a0k {l:List El}(h:okS l=true)(k:Nat):(encT (l.take k)).length≤200:=by
 have h2:=m1i h k;rw[g1b (d0l h2)];exact s0i h2
theorem Bld.lt {B b:Nat}{l:List UInt8}{w:World}(h:Bld B b l w):b<w.heap.size:=by
 rcases h with⟨_,v,h,_⟩|⟨_,v,h,_⟩
 · exact Sb.z0d h
 · exact Sb.z0d h
theorem Bld.below {B b:Nat}{l:List UInt8}{w w':World}(h:Bld B b l w)(hb:Below w.heap.size w w'):Bld B b l w':=Sb.a0x h hb
theorem g1r {x:El}(h0:2≤x.2)(h1:x.2≤127)(h2:x.1.size≤255){w w':World}{e:Ending}(h:PutIs x.2 x.1 w e w') :
    e = .returned (.tuple #[.string ⟨(enc1 x).toArray⟩,.bool true])∧Below w.heap.size w w':=by
 obtain⟨h3,h4⟩:=h
 obtain⟨a,b⟩:=w0e (x:=x) ⟨by omega,by omega,h2,fun h=>by omega⟩ (by omega)
 rw[a,b]at h3;exact⟨h3,h4⟩
theorem c0b (a:Option Addr)(c:Nat)(l:List El)(w:World)(hl:SRow w a l)(ln:l.length≤2000)(lb:∀ x∈l,x.1.size≤1099511627776) :
    Calls Tryz.prog 353 #[.slice a l.length c] w fun e w'=>e = .returned (.tuple #[.string (putS l),.bool (okS l)])∧Below w.heap.size w w':=by
 have P:=Lib.hid (l0a a c l w hl (by omega) lb)
 refine' qz7k;clear lb hl;by_cases hok:okS l=true;rotate_left
 · have hok:okS l=false:=by simpa using hok
   have HP:=Lib.hid (d0p hok);rw[hok]at P;have HK:=Lib.hid hok;clear hok;refine' qz16;refine P.out.mono ?_;refine' qz75;refine' qz2w;exact⟨t0b HP.out.symm HK.out.symm,hb⟩
 have HP:=Lib.hid (q0d hok);have HM:=Lib.hid (w0h (d0l hok));have HN:=Lib.hid (a0k hok);have HS:=Lib.hid (s0i hok);rw[hok]at P;have HK:=Lib.hid hok;have HLn:=Lib.hid ln;clear hok ln;refine' qz16;refine P.out.mono ?_;refine' qz76;clear hb P;refine' qzco;have HG:=Lib.hid (Bk.Bk.new 131 w1 #[.pointer none,.slice none 0 0]);have HSz:Hid (w.heap.size≤w1.heap.size):=Lib.hid HB.out.size;have HB:=Lib.hid (HB.out.alloc HB.out.size (.cells #[.pointer none,.slice none 0 0] 131));generalize w1.alloc (.cells #[.pointer none,.slice none 0 0] 131)=W at *;refine' qzcr
 have PB:=Lib.hid (w0k a c l W (HL.out.below HB.out) (by have:=HLn.out;omega) (by have:=HS.out;omega))
 refine' qzg;refine PB.out.mono ?_;refine' qz4b;have HG:=Lib.hid (HG.out.below hb);refine' qz6;clear hb PB;refine' qzg
 refine(Tryz.Builder_Grow_fresh w.heap.size g (bytesN l) w2 HSz.out HG.out HB.out.size (by have:=HS.out;omega)).mono ?_
 rintro e w3 ⟨rfl,hg,hb⟩;have HW:Hid (Bld w.heap.size g (encT (l.take 0)) w3):=Lib.hid (.inr hg);have HB:=Lib.hid (HB.out.trans hb);clear hb hg HG HSz;go_wp2
 go_loopw [17] (fun i wr=>∃ k:Nat,k≤l.length∧i = .int .i64 k∧Hid (Bld w.heap.size g (encT (l.take k)) wr)∧Hid (Below w.heap.size w wr)) (fun i _=>l.length - (intOf i).toNat)
 case atStart=>exact⟨0,Nat.zero_le _,rfl,HW,HB⟩
 case round=>
  obtain⟨k,hk,rfl,HD,HR⟩:=hrel;clear HW HB;by_cases hlt:k<l.length
  · obtain⟨p,rfl,hp,c0,c1⟩:=(HL.out.below HR.out) k hlt;have HT:=Lib.hid (d0q l k hlt)
    have hk2:(k:Int)≤2000:=by have:=HLn.out;omega
    have hm:=HM.out _ (List.getElem_mem hlt);have HL1:=Lib.hid (HN.out k);have HL2:=Lib.hid (HN.out (k+1));rw[add_one]at c1;refine' qz11;generalize encT (l.take k)=bs at *;obtain⟨d,n⟩:=u;obtain⟨h0,h1,h2⟩:=hm;simp only[]at h0 h1 h2 c0 c1
    have PP:=Lib.hid (fun V=>(F6.c0b n d V (by omega)).mono fun e w' h=>g1r (x:=(d,n)) h0 h1 h2 h)
    generalize hz:(⟨(enc1 (d,n)).toArray⟩:ByteArray)=z at *
    have HT:Hid (encT (l.take (k+1))=bs++z.data.toList):=Lib.hid (by rw[HT.out,←hz])
    have HL2:Hid (bs.length+z.size≤200):=Lib.hid (by
     have:=HL2.out;rw[HT.out,List.length_append]at this
     simpa using this)
    clear hz h0 h1 h2;have HDo:=HD;have HX:=Lib.hid (Bk.Bk.new 50 wr (cellsS (d,n)));have HD:=Lib.hid (Bld.below HD.out (balloc (Below.refl _ wr) (.cells (cellsS (d,n)) 50)));have HR:=Lib.hid (HR.out.alloc HR.out.size (.cells (cellsS (d,n)) 50));clear HDo;refine' qzcq;change Code.wp _ _ _ _ (wr.alloc (.cells (cellsS (d,n)) 50));generalize wr.alloc (.cells (cellsS (d,n)) 50)=W at *;generalize wr.heap.size=q at *;clear c0 c1 hp;have c0:=HX.out.cell 0 (.int .i64 n) rfl;have c1:=HX.out.cell 1 (.string d) rfl;refine' qzg;refine(PP.out _).mono ?_;rintro e w4 ⟨rfl,hb⟩;have HD:=Lib.hid (Bld.below HD.out hb);have HR:=Lib.hid (bcall HR.out hb);clear hb c0 c1 HX PP;refine' qzg
    refine(Sb.t0f w.heap.size g bs z _ HD.out (by have:=HL2.out;omega) HR.out.size).mono ?_
    rintro e w6 ⟨rfl,hd,hb,ho⟩
    have HD:Hid (Bld w.heap.size g (encT (l.take (k+1))) w6):=Lib.hid (by
     rw[HT.out]
     exact hd)
    have HR:=Lib.hid (HR.out.trans hb);clear hd hb ho;refine' qzbf
  · refine' qz12;rw[List.take_length]at HD;refine' qzg;refine(Sb.x0b w.heap.size g _ wr HD.out HR.out.size).mono ?_;rintro e w4 ⟨rfl,hb⟩;have HR:=Lib.hid (HR.out.trans hb);clear hb HD;refine' qz2w;exact⟨t0b HP.out.symm HK.out.symm,HR.out⟩
end S3
namespace L6
open Ms Box An
open Nu (layN k0a n0a)
open S1 (okS putS m0g)
open J1
open J2 (nil_eq k0f)
open K1 Kb
open K2 (n0l)
open Pre (leadN leastN cutL)
open L1 L2 L4 Cx
open F1 (enc1 ok1 w0e putO)
open F6 (y0d PutIs)
open F2 (sl_l)
open Bk (Bk b0a o0a loadVarK)
open Js (Lst j0c f0d z0a)
open Hs Hy
open Go.Proofs.YtllhobicfclheaaGreatDoor.Or (p0a)
theorem b1l {c:Kx}{m:M}(h:okU m=true):leadN (stB m.ae (c.pf m.ae)) (cutP m.ae m.pfx m.plen)=omN c m:=by
 have o:=(m0c m).1 h;unfold omN;by_cases h0:m.ae=0∨(c.pf m.ae).size=0
 · rw[if_pos h0];have hl:=Ld.k0h (stB m.ae (c.pf m.ae)) (cutP m.ae m.pfx m.plen)
   rcases h0 with h0|h0
   · have hz:=t0e o.pfx
     have:countN m.ae m.plen=0:=by
      rcases len_cases (r0b o.pfx).1 with⟨_,e⟩|⟨e,_⟩|⟨e,_⟩|⟨e,_⟩
      · rw[e];unfold countN leastN;simp
      all_goals omega
     omega
   · have:(stB m.ae (c.pf m.ae)).size=0:=by unfold stB;rw[d0c,List.length_drop,J1.c0a];omega
     omega
 · rw[if_neg h0];rfl
theorem y1p (ae:Int)(a:ByteArray)(p:Int):stB ae ⟨(cutL a.data.toList p).toArray⟩=cutP ae a p:=rfl
theorem d1o {c:Kx}(hc:okC c=true){ae:Int}(h0:0≤ae)(h3:ae≤3):(c.pf ae).size≤16:=by
 rcases((o0f c).1 hc).pf h0 h3 with h|⟨h,hz⟩
 · omega
 · have:=k0v h (by omega) h3
   rw[this];split<;>omega
theorem s1m (ae:Int)(s:ByteArray):(stB ae s).size≤s.size:=by unfold stB;rw[d0c,List.length_drop,J1.c0a];omega
theorem z1m (c:Kx)(m:M)(w:World)(hm:m.In w)(ln:m.sl.length≤2000)(lb:∀ x∈m.sl,x.1.size≤1099511627776)(hc:okC c=true)(h:okU m=true) :
    Calls Tryz.prog 333 #[.agg c.cells,.agg m.cells] w fun e w'=>e = .returned (.string ⟨(enc1 (updD m (omN c m),8)).toArray⟩)∧Below w.heap.size w w':=by
 have o:=(m0c m).1 h;obtain⟨a0,a1,p0,p1⟩:=q0b (r0b o.pfx).1;have hcs:=t0e o.pfx;have hct:=(count_le (r0b o.pfx).1).1;have hpx:=J2.k0i o.pfx;obtain⟨o1,_,_⟩:=y0s (c:=c) h;have hpf:=d1o hc a0 a1;have hzs:=s1m m.ae (c.pf m.ae)
 obtain⟨k,hk⟩:∃ k:Nat,m.ae=k:=⟨m.ae.toNat,by omega⟩
 have hk4:k<4:=by omega
 have Q1:=Lib.hid (fun V=>Pre.g0j m.pfx m.plen V (by omega) (by omega))
 have Q2:=Lib.hid (fun V=>f0o m.ae ⟨(cutL m.pfx.data.toList m.plen).toArray⟩ V)
 rw[y1p]at Q2
 have Q3:=Lib.hid (fun V=>f0o m.ae (c.pf m.ae) V)
 have Q4:=Lib.hid (fun V=>Pre.b1g (stB m.ae (c.pf m.ae)) (cutP m.ae m.pfx m.plen) V (by omega) (by omega))
 rw[b1l h]at Q4
 have Q5:=Lib.hid (fun V (y:m.In V)=>S3.c0b m.sa m.sc m.sl V y.s ln lb)
 rw[o.subs]at Q5
 have Q6:=Lib.hid (fun V (y:m.In V)=>q0c m (omN c m:Nat) V y)
 have hpu:=j1b h o1
 have hp:=(w0e hpu (by show ¬(8:Int)=0;decide)).2
 have hzu:=(q0i h o1).2
 have Q7:=Lib.hid (fun V=>F6.c0b 8 (updD m (omN c m)) V (by omega))
 unfold PutIs at Q7
 rw[show putO 8 (updD m (omN c m))=_ from hp]at Q7
 have hsl:=m0g m.sl;have hhd:=p1l m (omN c m:Nat);have HD:=i1r m (omN c m)
 have hq:(⟨((cutP m.ae m.pfx m.plen).data.toList.drop (omN c m)).toArray⟩:ByteArray)=(cutP m.ae m.pfx m.plen).extract (omN c m) (cutP m.ae m.pfx m.plen).size:=k0a (by rw[f0g])
 rw[hq]at HD
 have cut:=sl_l (cutP m.ae m.pfx m.plen) (omN c m:Nat) (omN c m) _ rfl (by omega) rfl
 have hqz:((cutP m.ae m.pfx m.plen).extract (omN c m) (cutP m.ae m.pfx m.plen).size).size≤16:=by rw[←hq,d0c,List.length_drop,J1.c0a];omega
 have P0:=fun V (y:Us w c m V)=>z1o y.s0 hk4
 rw[←hk]at P0;generalize (⟨(enc1 (updD m (omN c m),8)).toArray⟩:ByteArray)=u at *;generalize updD m (omN c m)=d at *;generalize hdU m (omN c m:Nat)=q4 at *;generalize (cutP m.ae m.pfx m.plen).extract (omN c m) (cutP m.ae m.pfx m.plen).size=q3 at *;generalize omN c m=n at *;generalize putS m.sl=sb at *;generalize stB m.ae (c.pf m.ae)=q2 at *;generalize cutP m.ae m.pfx m.plen=cp at *;generalize (⟨(cutL m.pfx.data.toList m.plen).toArray⟩:ByteArray)=q1 at *;generalize F1.putB 8 d=yb at *
 have cat1:=y0d q4 q3 _ (by omega) (by omega) rfl
 have hz1:(q4++q3).size≤26:=by rw[ByteArray.size_append];omega
 generalize q4++q3=u1 at *
 have cat2:=y0d u1 sb _ (by omega) (by omega) HD
 generalize c.pf m.ae=pa at *;have PFA:=Lib.hid P0;have HK:=Lib.hid hk;clear P0 hk o hpx o1 hpf hzs lb ln hpu hp hzu hsl hhd HD hq hqz hz1 hc h hcs hct a0 a1 p0 p1;refine' qzi;change Code.wp _ _ _ _ ((w.alloc (.cells c.cells 74)).alloc (.cells m.cells 29));have D:=Lib.hid (Us.start w c m hm);clear hm;generalize (w.alloc (.cells c.cells 74)).alloc (.cells m.cells 29)=V at *;refine' qzd8;clear D;generalize V.drew=X0 at *;refine' qzbs;refine H.tk (i:=1) (v:=?v1x2) ?h1x2 hS ?_
 case h1x2=>(intro w hw;have c:=(hw.m0).cs.c5;go_simp;first|done|(with_reducible rfl))
 refine' qz0;refine H.tk (i:=2) (v:=?v2x3) ?h2x3 hS ?_
 case h2x3=>(intro w hw;go_simp;first|done|(with_reducible rfl))
 refine' qz0;refine H.tk (i:=3) (v:=?v3x4) ?h3x4 hS ?_
 case h3x4=>(intro w hw;have c:=(hw.m0).cs.c6;go_simp;first|done|(with_reducible rfl))
 refine' qz0;refine H.tk (i:=4) (v:=?v4x5) ?h4x5 hS ?_
 case h4x5=>(intro w hw;go_simp;first|done|(with_reducible rfl))
 refine' qz0;refine H.tk (i:=5) (v:=?v5x6) ?h5x6 hS ?_
 case h5x6=>(intro w hw;have c:=(hw.m0).cs.c7;go_simp;first|done|(with_reducible rfl))
 refine' qz0
 refine H.one (i:=6) (by simp only[List.getElem?_toArray,List.getElem?_cons_succ,List.getElem?_cons_zero];rfl) (by kernel_rfl) (by kernel_rfl) (fun K hK=>?_)
 go_simp;refine(Q1.out _).mono ?_;rintro e X1 ⟨rfl,hb⟩;refine' qzc3
 refine H.one (i:=7) (by simp only[List.getElem?_toArray,List.getElem?_cons_succ,List.getElem?_cons_zero];rfl) (by kernel_rfl) (by kernel_rfl) (fun K hK=>?_)
 go_simp;refine(Q2.out _).mono ?_;rintro e _ ⟨rfl,rfl⟩;refine hK.out _ _ hS ?_;refine' qzy;refine H.tk (i:=8) (v:=?v8x7) ?h8x7 hS ?_
 case h8x7=>(intro w hw;go_simp;first|done|(with_reducible rfl))
 refine' qz8v;have D:=Lib.hid hS;clear hS Q1 Q2;generalize X1=V1 at *;refine' qzb7;refine' qzd8;clear D;generalize V1.drew=Y0 at *;refine' qzbl;refine H.tk (i:=1) (v:=?v1x2p) ?h1x2p hS ?_
 case h1x2p=>(intro w hw;have c:=(hw.m0).cs.c5;go_simp;first|done|(with_reducible rfl))
 refine' qz0;refine H.tk (i:=2) (v:=?v2x3p) ?h2x3p hS ?_
 case h2x3p=>(intro w hw;go_simp;first|done|(with_reducible rfl))
 refine' qz0;refine H.tk (i:=3) (v:=?v3x4p) ?h3x4p hS ?_
 case h3x4p=>(intro w hw;have c:=(hw.m0).cs.c5;go_simp;first|done|(with_reducible rfl))
 refine' qz0;refine H.tk (i:=4) (v:=?v4x5p) ?h4x5p hS ?_
 case h4x5p=>(intro w hw;go_simp;first|done|(with_reducible rfl))
 refine' qz0;refine H.tk (i:=5) (v := .pointer (some ⟨w.heap.size,k,none⟩)) ?h5x6p hS ?_
 case h5x6p=>exact(fun w1 hw=>f0e (vx := .pointer (some ⟨w.heap.size,0,none⟩)) (vy := .int .i64 m.ae) rfl rfl rfl (by rw[HK.out];exact v1g _ _ hk4 _))
 refine' qz0;refine H.tk (i:=6) (v:=?v6x7p) ?h6x7p hS ?_
 case h6x7p=>(intro w hw;have c:=PFA.out _ hw;go_simp;first|done|(with_reducible rfl))
 refine' qz0;refine H.tk (i:=8) (v:=?v8x8p) ?h8x8p hS ?_
 case h8x8p=>(intro w hw;go_simp;first|done|(with_reducible rfl))
 refine' qz0
 refine H.one (i:=7) (by simp only[List.getElem?_toArray,List.getElem?_cons_succ,List.getElem?_cons_zero];rfl) (by kernel_rfl) (by kernel_rfl) (fun K hK=>?_)
 go_simp;refine(Q3.out _).mono ?_;rintro e _ ⟨rfl,rfl⟩;refine hK.out _ _ hS ?_;refine' qzy;refine' qz4a;refine(Q4.out _).mono ?_;rintro e X1 ⟨rfl,hb⟩;refine' qzc3;refine H.tk (i:=10) (v:=?v10x9p) ?h10x9p hS ?_
 case h10x9p=>(intro w hw;go_simp;first|done|(with_reducible rfl))
 refine' qz1;have c24:=hS.m0.cs.c24;refine' qzg;have D:=Lib.hid hS;clear hS Q3 Q4;refine(Q5.out _ D.out.i).mono ?_;rintro r V3 ⟨rfl,hb⟩;have D:=Lib.hid (D.out.call hb);clear hb c24 Q5;refine' qzco;refine' qzd8;clear D;generalize V3.drew=Z0 at *;refine H.tk (i:=0) (v := .agg (M.cells m)) ?h0x1q hS ?_
 case h0x1q=>exact(fun w hw=>a0b (x := .tmp 3) rfl rfl hw.m0)
 refine' qz0;refine H.tk (i:=1) (v:=?v1x2q) ?h1x2q hS ?_
 case h1x2q=>(intro w hw;go_simp;first|done|(with_reducible rfl))
 refine' qz0;refine H.tk (i:=3) (v:=?v3x3q) ?h3x3q hS ?_
 case h3x3q=>(intro w hw;go_simp;first|done|(with_reducible rfl))
 refine' qz0;refine H.tk (i:=4) (v:=?v4x4q) ?h4x4q hS ?_
 case h4x4q=>(intro w hw;go_simp;first|done|(with_reducible rfl))
 refine' qz0;refine H.tk (i:=5) (v:=?v5x5q) ?h5x5q hS ?_
 case h5x5q=>(intro w hw;go_simp;first|done|(with_reducible rfl))
 refine' qz0;refine H.tk (i:=7) (v:=?v7x6q) ?h7x6q hS ?_
 case h7x6q=>(intro w hw;go_simp;first|done|(with_reducible rfl))
 refine' qz1c;go_simp;refine(Q6.out _ hS.i).mono ?_;rintro e X1 ⟨rfl,hb⟩;refine' qzc3;refine H.tk (i:=6) (v:=?v6x7q) ?h6x7q hS ?_
 case h6x7q=>(intro w hw;go_simp;first|done|(with_reducible rfl))
 refine' qz0;refine H.tk (i:=8) (v:=?v8x8q) ?h8x8q hS ?_
 case h8x8q=>(intro w hw;go_simp;first|done|(with_reducible rfl))
 refine' qz0;refine' qz4a;refine(Q7.out _).mono ?_;rintro e X2 ⟨rfl,hb⟩;refine' qzc3;refine H.tk (i:=10) (v:=?v10x9q) ?h10x9q hS ?_
 case h10x9q=>(intro w hw;go_simp;first|done|(with_reducible rfl))
 refine' qz0;refine H.tk (i:=11) (v:=?v11x10q) ?h11x10q hS ?_
 case h11x10q=>(intro w hw;go_simp;first|done|(with_reducible rfl))
 refine' qz0;refine H.tk (i:=12) (v:=?v12x11q) ?h12x11q hS ?_
 case h12x11q=>(intro w hw;go_simp;first|done|(with_reducible rfl))
 refine' qz0;refine H.tk (i:=13) (v:=?v13x12q) ?h13x12q hS ?_
 case h13x12q=>(intro w hw;go_simp;first|done|(with_reducible rfl))
 refine' qz0;refine H.tk (i:=14) (v:=?v14x13q) ?h14x13q hS ?_
 case h14x13q=>(intro w hw;go_simp;first|done|(with_reducible rfl))
 refine' qz1;refine' qzj;exact⟨rfl,hS.bel⟩
end L6
end Go.Proofs.YtllhobicfclheaaGreatDoor
