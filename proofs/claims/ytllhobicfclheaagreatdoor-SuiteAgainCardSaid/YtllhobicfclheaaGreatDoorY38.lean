/-
  A part of a proof. No conditions.
-/
import Derived.Test.YtllhobicfclheaaGreatDoorY14
namespace Go.Proofs.YtllhobicfclheaaGreatDoor
open Go.ChangeShapes Go.WideShapes Go.ChangeAt Go.RowKit
set_option linter.unusedVariables false
set_option maxRecDepth 100000
set_option maxHeartbeats 51200000
namespace Ec
open Ms Rp Ps Es All Ix Tg Wr
def AnsE (p:ByteArray×Int×Int)(w:World)(e:Ending)(w':World):Prop:=e = .returned (.tuple #[.string p.1,.int .i64 p.2.1,.int .i64 p.2.2])∧Below w.heap.size w w'
theorem AnsE.of {p:ByteArray×Int×Int}{w w':World}{b:ByteArray}{x y:Int}(h:p=(b,x,y))(hb:Below w.heap.size w w'):AnsE p w (.returned (.tuple #[.string b,.int .i64 x,.int .i64 y])) w':=by
 subst h;exact⟨rfl,hb⟩
theorem enc_cases (l:List M) :
    (∃ k,k<l.length∧(∀ i,i<k→ckW l i=0)∧ckW l k≠0)∨
    ((∀ i,i<l.length→ckW l i=0)∧(l.length=0∨
      (∃ k,k<l.length∧(∀ i,i<k→ckT l i=0)∧ckT l k≠0)∨
      (0<l.length∧∀ i,i<l.length→ckT l i=0))):=by
 have first:∀ (f:Nat→Int) n,(∃ k,k<n∧(∀ i,i<k→f i=0)∧f k≠0)∨(∀ i,i<n→f i=0):=by
  intro f n;refine' qzdc
 rcases first (ckW l) l.length with h|h
 · exact .inl h
 · refine .inr ⟨h,?_⟩;by_cases h0:l.length=0
   · exact .inl h0
   · rcases first (ckT l) l.length with h'|h'
     · exact .inr (.inl h')
     · exact .inr (.inr ⟨by omega,h'⟩)
theorem p0c (a:Option Addr)(c:Nat)(l:List M)(w:World)(hl:MRow w a l)(hs:∀ m∈l,Short m)(hn:l.length≤1000) :
    Calls Tryz.prog 33 #[.slice a l.length c] w (AnsE (enc l) w):=by
 have P1:=Lib.hid (fun W (h:MRow W a l)=>e0i a c l W h hs (by omega))
 refine' qzd6
 rcases enc_cases l with⟨k,h1,h2,h3⟩|⟨hw,h0|⟨k,h1,h2,h3⟩|⟨h0,ht⟩⟩
 · have HZ:=Lib.hid (g0d h1 h2 h3);have hx:=h0h h1 h2 h3;rw[hx]at P1;clear hx h1 h2 h3;refine' qz16;refine(P1.out _ hl).mono ?_;refine' qz75;refine' qzbc
 · have HZ:=Lib.hid (q0e h0);refine' qzb4;have HL:=Lib.hid h0
   have e1:((l.length:Int)==0)=true:=by rw[beq_iff_eq];omega
   clear hx h0 hw;refine' qz16;refine(P1.out _ hl).mono ?_;refine' qz75;refine' qzbc
 · have HZ:=Lib.hid (z0h hw h1 h2 h3);refine' qzb4;have hg:=u1c h1 h2 h3
   have P2:=Lib.hid (fun W (h:MRow W a l)=>n0e a c l W h (by omega) (by omega))
   rw[hg]at P2
   have e1:((l.length:Int)==0)=false:=by rw[beq_eq_false_iff_ne];omega
   have e2:(ckT l k==0)=false:=by simpa using h3
   have e3:(ckT l k != 0)=true:=by rw[bne,e2];rfl
   clear hx hg hw h1 h2 h3;generalize ckT l k=x at *;refine' qz16;refine(P1.out _ hl).mono ?_;refine' qz75;refine' qzg;refine(P2.out _ (HMr.out _ hb)).mono ?_;rintro e w2 ⟨rfl,hb2⟩;have hb:=bcall hb hb2;refine' qzbc
 · have HZ:=Lib.hid (u0l hw (by omega) ht)
   refine' qzb4;have hg:=q1b ht
   have P2:=Lib.hid (fun W (h:MRow W a l)=>n0e a c l W h (by omega) (by omega))
   rw[hg]at P2
   have P3:=Lib.hid (fun W (h:MRow W a l)=>v1e a c l W h (by omega) h0 (c0i hw))
   have e1:((l.length:Int)==0)=false:=by rw[beq_eq_false_iff_ne];omega
   clear hx hg hw ht h0;generalize wrtL l=bs at *;refine' qz16;refine(P1.out _ hl).mono ?_;refine' qz75;refine' qzg;refine(P2.out _ (HMr.out _ hb)).mono ?_;rintro e w2 ⟨rfl,hb2⟩;have hb:=bcall hb hb2;refine' qzg;refine(P3.out _ (HMr.out _ hb)).mono ?_;rintro e w3 ⟨rfl,hb3⟩;have hb:=bcall hb hb3;refine' qzbc
end Ec
namespace Pa
open Ms Box Rp Ps Hd Rr All
theorem Ans.of {p:List M×Int×Int}{w w':World}{a:Option Addr}{c:Nat}{l:List M}{y1 y2:Int}(h:p=(l,y1,y2))(hl:MRow w' a l)(hb:Below w.heap.size w w'):Ans p w (.returned (.tuple #[.slice a l.length c,.int .i64 y1,.int .i64 y2])) w':=by
 subst h;exact⟨a,c,rfl,hl,hb⟩
theorem n0c (b:ByteArray)(w:World)(hs:b.size≤1048576):Calls Tryz.prog 32 #[.string b] w (Ans (out b) w):=by
 have HO:=Lib.hid (show out b=if(hdAt b).2≠0 then([],hdAt b)else if(cnAt b).2≠0 then([],cnAt b)else if atN b=b.size then([],(b.size:Int),8)else ents (hdM b) b (atN b) (cntN b) (decide (atN b+20=b.size))from rfl)
 have P1:=Lib.hid (fun W=>h1n b W hs)
 by_cases h1:(hdAt b).2=0;rotate_left
 · have HZ:Hid (out b=([],(hdAt b).1,(hdAt b).2)):=Lib.hid (by rw[HO.out,if_pos h1])
   have e1:((hdAt b).2==0)=false:=by simpa using h1
   have e2:((hdAt b).2 != 0)=true:=by rw[bne,e1];rfl
   clear HO h1;generalize (hdAt b).2=x at *;generalize (hdAt b).1=y at *;go_in;refine' qz2q;refine' qz5w;exact Ans.no HZ.out (Below.refl _ _)
 have HO:=Lib.hid (show out b=if(cnAt b).2≠0 then([],cnAt b)else if atN b=b.size then([],(b.size:Int),8)else ents (hdM b) b (atN b) (cntN b) (decide (atN b+20=b.size)) by rw[HO.out,if_neg (by simpa using h1)])
 obtain⟨h4,_,_,_⟩:=z0p h1
 have P2:=Lib.hid (fun W=>u1j b W hs h4)
 rw[h1]at P1;clear h1;by_cases h2:(cnAt b).2=0;rotate_left
 · have HZ:Hid (out b=([],(cnAt b).1,(cnAt b).2)):=Lib.hid (by rw[HO.out,if_pos h2])
   have e1:((cnAt b).2==0)=false:=by simpa using h2
   have e2:((cnAt b).2 != 0)=true:=by rw[bne,e1];rfl
   clear HO h2;generalize (cnAt b).2=x at *;generalize (cnAt b).1=y at *;generalize (hdAt b).1=z at *;go_in;refine' qz2q;refine' qz7c;refine' qz5w;exact Ans.no HZ.out (Below.refl _ _)
 have HO:=Lib.hid (show out b=if atN b=b.size then([],(b.size:Int),8)else ents (hdM b) b (atN b) (cntN b) (decide (atN b+20=b.size)) by rw[HO.out,if_neg (by simpa using h2)])
 obtain⟨n,n1,n2,hn⟩:=p1g h2 h4
 have P3:=Lib.hid (fun W=>d1l b W hs (by omega))
 rw[h2]at P2;clear h2;have ho:=l0z b
 have P4:=Lib.hid (fun(hq:atN b≤b.size) W=>i1d b (hdM b) (atN b) (cntN b) W rfl rfl rfl rfl hs (by unfold cntN;omega) (by unfold cntN;omega))
 generalize (cnAt b).1=y at *;generalize (hdAt b).1=z at *;generalize hdM b=h at *;generalize cntN b=cn at *;generalize hat:atN b=at0 at *;clear hat;by_cases h3:at0=b.size
 · have HZ:=Lib.hid (show out b=([],(at0:Int),8) by rw[HO.out,if_pos h3,h3])
   have e1:((at0:Int)==(b.size:Int))=true:=by rw[beq_iff_eq];omega
   clear HO h3 P4 hn ho;go_in;refine' qz2q;refine' qz7c;refine' qz25;refine' qz75
   go_wp2_with (first|(refine e0a (b:=w1.heap.size) (m:=M.zero) (m':=h) rfl _ _ rfl rfl rfl (heap_alloc_new _ _) ?_))
   go_ret3;change Ans _ _ _ ((w1.alloc (.cells M.zero.cells 29)).setRow w1.heap.size h.cells);refine' qz33;exact Ans.no HZ.out (balloc hb _)
 · have HZ:=Lib.hid (show out b=ents h b at0 cn (decide (at0+20=b.size)) by rw[HO.out,if_neg h3])
   have e1:((at0:Int)==(b.size:Int))=false:=by rw[beq_eq_false_iff_ne];omega
   have P4:=Lib.hid (P4.out (by omega))
   clear HO h3 hn ho;generalize ents h b at0 cn (decide (at0+20=b.size))=p at *;go_in;refine' qz2q;refine' qz7c;refine' qz25;refine' qz75
   go_upto_region 8 with(first|(refine e0a (b:=w1.heap.size) (m:=M.zero) (m':=h) rfl _ _ rfl rfl rfl (heap_alloc_new _ _) ?_))
   change Code.wp _ _ _ _ ((w1.alloc (.cells M.zero.cells 29)).setRow w1.heap.size h.cells);refine' qz33;have B1:=Lib.hid (Bx.new w1 h);replace hb:=balloc hb (.cells h.cells 29);generalize w1.alloc _=W2 at *;refine' qzcr
   go_wp2_with (first|(refine j0a (b:=g) (m:=h) rfl _ rfl rfl B1.out ?_))
   refine(P4.out _).mono ?_;rintro e w3 ⟨a,c,rfl,hm,hb3⟩;have HM:=Lib.hid hm;have HB:=Lib.hid (bcall hb hb3);clear hm hb hb3 B1;obtain⟨l,y1,y2⟩:=p;refine' qz5w;exact Ans.of HZ.out HM.out HB.out
end Pa
namespace NWr
open Ms Box NRp NRt Hs Hx NSt
open Oct (cellsL)
open Bk (E Bk Sh shE q0a loadVarK d0a f0a a0a o0a)
open Go.Proofs.YtllhobicfclheaaGreatDoor.Or (p0a)
theorem int_eq {k:IntKind}{a b:Int}(h:a=b):Ending.returned (.int k a) = .returned (.int k b):=by rw[h]
def Wri (B b:Nat)(c:Int)(nx:ByteArray)(bs:List UInt8)(w:World):Prop:=B≤b∧∃ v,Bk 98 w b #[.int .i64 c,.string nx,v]∧Own B w v bs
theorem neW:(98:TypeId)≠5:=by decide
theorem neM:(29:TypeId)≠5:=by decide
theorem shW:Sh Tryz.prog 98 3:=⟨_,Tryz.underlying98,by kernel_rfl⟩
theorem Wri.below {B b:Nat}{c:Int}{nx:ByteArray}{l:List UInt8}{w w':World}(h:Wri B b c nx l w)(hb:Below w.heap.size w w'):Wri B b c nx l w':=by
 refine' qzbj
theorem Wri.lt {B b:Nat}{c:Int}{nx:ByteArray}{l:List UInt8}{w:World}(h:Wri B b c nx l w):b<w.heap.size:=by
 obtain⟨h1,v,h2,h3⟩:=h;exact h2.lt
def Oth (b:Nat)(w w':World):Prop:=∀ (T:TypeId) k cs,T≠5→k≠b→Bk T w k cs→Bk T w' k cs
theorem Oth.trans {b:Nat}{w w' w'':World}(h:Oth b w w')(h':Oth b w' w''):Oth b w w'':=fun T k cs h1 h2 h3=>h' T k cs h1 h2 (h T k cs h1 h2 h3)
theorem Oth.below {b:Nat}{w w':World}(h:Below w.heap.size w w'):Oth b w w':=fun _ _ _ _ _ h3=>h3.below h
theorem Oth.set {b i:Nat}{w:World}{v:Value}:Oth b w (w.setCell ⟨b,i,none⟩ v):=fun _ _ _ _ h2 h3=>h3.off (p:=⟨b,i,none⟩) h2 v
theorem Oth.grown {B b:Nat}{w w':World}{v:Value}{bs:List UInt8}(hown:Own B w v bs)(hg:w.grownBy w' v.ownBlock):Oth b w w':=fun _ _ _ h1 _ h3=>(hg.block _ h3.lt (fun e=>x0f hown h3 h1 e.symm)).trans h3
theorem Oth.bx {b g:Nat}{w w':World}{m:M}(h:Oth b w w')(hn:g≠b)(hb:Bx w g m):Bx w' g m:=h 29 g m.cells neM hn hb
theorem y0v (B b:Nat)(c:Int)(nx:ByteArray)(bs:List UInt8)(e:E)(w:World)(h:Wri B b c nx bs w)(hB:B≤w.heap.size)(hl:bs.length≤900000)(he:Rte.OkE e) :
    Calls Tryz.prog 168 #[.pointer (some ⟨b,0,none⟩),.agg e.cells] w fun r w'=>r = .returned (.tuple #[])∧Wri B b c nx (bs++putL e) w'∧Below B w w'∧Oth b w w':=by
 have P1:=Lib.hid (fun W=>Rte.c0b e W he)
 have b0:=Bk.Bk.new 59 w e.cells;have bel:=balloc (Below.refl w.heap.size w) (.cells e.cells 59);have hr:=h.below bel;have ot:Oth b w _:=Oth.below bel;replace bel:=bel.mono hB
 have HP:=Lib.hid (show putL e=(Rte.putE e).data.toList from rfl)
 have HS:=Lib.hid (show(Rte.putE e).size≤20 by have:=q0k e;unfold putL at this;simpa using this)
 clear h;generalize Rte.putE e=s at *;generalize Rte.okE e=so at *;refine' qzi;have hsz:=Bk.b0a w (.cells e.cells 59);generalize w.alloc (.cells e.cells 59)=V at *
 have hBV:B≤V.heap.size:=by omega
 have B0:=Lib.hid b0;have R0:=Lib.hid hr;clear b0 hr;refine' qzac;rintro r w1 ⟨rfl,hb⟩;replace ot:=ot.trans (Oth.below hb);replace bel:=bel.trans (hb.mono hBV)
 have hBw:B≤w1.heap.size:=by have:=hb.size;omega
 have R0:=Lib.hid (R0.out.below hb);clear hb B0 P1;obtain⟨hBb,v,hb,hown⟩:=R0.out;have d2:=hb.cell 2 v rfl;refine' qzcf;have HT:=Lib.hid ot;clear hb hown R0 ot;refine' qzb7;go_wp2_with (at_builtin;refine n0h rfl _ _ rfl B v bs s rfl HO.out rfl ?cL hBw ?_)
 case cL=>have:=HS.out;omega
 intro v' w2 hown2 hgrow hbel;have hlt:=HB.out.lt;have hne:=x0f HO.out HB.out neW
 have hb2:Bk 98 w2 b #[.int .i64 c,.string nx,v]:=(hgrow.block b hlt (fun e=>hne e.symm)).trans HB.out
 have HT:=Lib.hid (HT.out.trans (Oth.grown HO.out hgrow));replace bel:=bel.trans hbel;obtain⟨va2,vc2,rfl⟩:=b0d hown2;have d2:=hb2.cell 2 v rfl;have f2:=hb2.frozen 2;have HB2:=Lib.hid hb2;have HO2:=Lib.hid hown2;clear hb2 hown2 hgrow hbel HB HO hne hlt
 have HP:=Lib.hid (show bs++putL e=bs++s.data.toList by rw[HP.out])
 generalize bs++s.data.toList=bs2 at *;refine' qzaj
 exact⟨rfl,by rw[HP.out];exact⟨hBb,_,HB2.out.set rfl,o0e HO2.out HB2.out neW⟩,bel.setCell (p:=⟨b,2,none⟩) hBb _,HT.out.trans Oth.set⟩
theorem p1o {c:Int}(h:c=1∨c=2)(W:World):(convert 3 5 (.int .i64 c)).run Tryz.prog W = .ok (.int .u8 c) W:=by
 rcases h with rfl|rfl<;>rfl
theorem h1e {c:Int}(h:c=1∨c=2):#[Value.int .u8 c,Value.int .u8 1].toList=cellsL (Rte.layN c 1 ++ [1])∧(Rte.layN c 1 ++ [1]).length=2:=by
 rcases h with rfl|rfl<;>exact⟨rfl,rfl⟩
theorem o1d (c:Int)(w:World):(Instr.buildSlice 96 2 #[(0,.int .u8 c),(1,.int .u8 1)]).run Tryz.prog w = .ok (.slice (some ⟨w.heap.size,0,none⟩) 2 2) (w.alloc (.cells #[.int .u8 c,.int .u8 1] 5)):=by
 kernel_rfl
theorem c1q {o:Oper}{ρ:Operand→Value}{x:Operand}{c:Int}{w:World}(ho:o.op = .buildSlice 96 2 #[(0,x),(1,.const (.int .u8 1))])(hx:ρ x = .int .u8 c)(h1:ρ (.const (.int .u8 1)) = .int .u8 1) :
    (execOp ρ o).run Tryz.prog w = .ok (.value (.slice (some ⟨w.heap.size,0,none⟩) 2 2)) (w.alloc (.cells #[.int .u8 c,.int .u8 1] 5)):=by
 have e:((#[(0,x),(1,.const (.int .u8 1))]:Array (Nat×Operand)).map fun(i,x)=>(i,ρ x)) = #[(0,.int .u8 c),(1,.int .u8 1)]:=by simp[hx,h1]
 unfold execOp;simp only[ho,Sem.run_bind,e,o1d,Result.andThen_ok,Sem.run_pure]
theorem c1g {o:Oper}{a:Act}{w:World}{K:Act→World→Prop}{Q:Exit→Act→World→Prop}{d:Nat}(hd:o.dst=some d)(x:Operand)(hop:o.op = .buildSlice 96 2 #[(0,x),(1,.const (.int .u8 1))]){c:Int}(hx:a.eval x = .int .u8 c)
    (h:K (a.put (some d) (.slice (some ⟨w.heap.size,0,none⟩) 2 2)) (w.alloc (.cells #[.int .u8 c,.int .u8 1] 5))):Oper.wp Tryz.prog o a w K Q:=by
 unfold Oper.wp;rw[c1q hop hx rfl];simp only[Oper.upon,hd];exact h
section
variable {ops:Array Oper} {Q:Exit→Act→World→Prop} {md:Region.Mode} {S:World→Prop}
theorem H.bsB {i d:Nat}{o:Oper}{fuel:Nat}{listed:Array Bool}{a:Act}{w:World}
    (ho:ops[i]?=some o) (hw:Region.wanted o (yielded ops a.tmps)=true) (hr:Region.ready md ops listed = [i]) (hd:o.dst=some d)
    (x:Operand) (hop:o.op = .buildSlice 96 2 #[(0,x),(1,.const (.int .u8 1))]) {c:Int} (hx:a.eval x = .int .u8 c) (hS:S (w.alloc (.cells #[.int .u8 c,.int .u8 1] 5)))
    (h:wpAnyH Tryz.prog md ops Q S fuel (listed.setIfInBounds i true) (a.put (some d) (.slice (some ⟨w.heap.size,0,none⟩) 2 2)) (w.alloc (.cells #[.int .u8 c,.int .u8 1] 5))):wpAnyH Tryz.prog md ops Q S (fuel+1) listed a w:=by
 refine H.one ho hw hr (fun K hK=>?_)
 refine c1g hd x hop hx ?_;exact hK.out _ _ hS h
end
structure Sc (b:Nat)(c:Int)(W:World):Prop where
  c0:W.cell? ⟨b,0,none⟩=some (.int .i64 c)
theorem Sc.of {b:Nat}{c:Int}{nx:ByteArray}{v:Value}{W:World}(h:Bk 98 W b #[.int .i64 c,.string nx,v]):Sc b c W:=⟨h.cell 0 _ rfl⟩
theorem q0c (B b:Nat)(c:Int)(nx:ByteArray)(bs:List UInt8)(w:World)(h:Wri B b c nx bs w)(hB:B≤w.heap.size)(hl:bs.length≤900000)(hc:c=1∨c=2) :
    Calls Tryz.prog 97 #[.pointer (some ⟨b,0,none⟩)] w fun r w'=>r = .returned (.tuple #[])∧Wri B b c nx (bs++hdL c) w'∧Below B w w':=by
 have PZ:=Lib.hid (fun W=>Oct.y0e 2 W (by omega))
 have cv:=Lib.hid (fun W=>p1o hc W)
 have HN:Hid (#[Value.int .u8 c,Value.int .u8 1].toList=cellsL (Rte.layN c 1 ++ [1])∧(Rte.layN c 1 ++ [1]).length=2):=Lib.hid (h1e hc)
 have HH:=Lib.hid (show bs++hdL c=(bs++(Rte.layN c 1 ++ [1])) ++ [0,0] by unfold hdL;simp)
 have hz2:(ByteArray.mk (List.replicate 2 (0:UInt8)).toArray).data.toList = [0,0]∧(ByteArray.mk (List.replicate 2 (0:UInt8)).toArray).size=2:=⟨rfl,rfl⟩;have HZ2:=Lib.hid hz2;have HLn:=Lib.hid hl;clear hc hz2 hl;generalize ByteArray.mk (List.replicate 2 (0:UInt8)).toArray=t2 at *;generalize Rte.layN c 1 ++ [1]=nw at *;obtain⟨hBb,v,hb,hown⟩:=h;obtain⟨va,vc,rfl⟩:=b0d hown;have HR:=Lib.hid hb.drew;have HO:Hid (Own B w.drew (.slice va bs.length vc) bs):=Lib.hid hown;have bel:Below B w w.drew:=(Below.refl B w).drew;have hBw:B≤w.drew.heap.size:=hB;clear hb hown hB;go_in
 go_upto_region 0 with fail
 refine wp_region_held_drew (S:=Sc b c) (by kernel_rfl) (Sc.of HR.out) (fun hS=>?_)
 generalize w.drew=w0 at *;refine' qz1g;refine' qz1z;refine' qza2;refine' qz21;refine' qz1y;refine' qz61;refine' qz0;refine H.tk (i:=8) (v:=?v8) ?h8 hS ?_
 case h8=>(intro w hw;have c:=hw.c0;go_simp;first|done|(with_reducible rfl))
 refine' qz0;refine H.tk (i:=9) (v := .int .u8 c) ?h9 hS ?_
 case h9=>exact(fun w hw=>by have cv:=cv.out w;go_simp)
 refine' qz0;have HR1:=Lib.hid (HR.out.old (.cells #[.int .u8 c,.int .u8 1] 5));have HO1:=Lib.hid (HO.out.below (balloc (Below.refl _ w0) (.cells #[.int .u8 c,.int .u8 1] 5)))
 have HC1:Hid (∀ j u,(cellsL nw)[j]?=some u→(w0.alloc (.cells #[.int .u8 c,.int .u8 1] 5)).cell? ((⟨w0.heap.size,0,none⟩:Addr).add j)=some u):=Lib.hid (by rw[←HN.out.1];exact d1e _ _ w0)
 replace bel:=bel.alloc hBw (.cells #[.int .u8 c,.int .u8 1] 5)
 replace hBw:B≤(w0.alloc (.cells #[.int .u8 c,.int .u8 1] 5)).heap.size:=by rw[Bk.b0a];omega
 refine H.two (i:=4) (j:=10) (by simp only[List.getElem?_toArray,List.getElem?_cons_succ,List.getElem?_cons_zero];rfl) (by kernel_rfl) (by simp only[List.getElem?_toArray,List.getElem?_cons_succ,List.getElem?_cons_zero];rfl) (by kernel_rfl) (by kernel_rfl) (fun K hK=>?wa) (fun K hK=>?wb)
 case' wa=>
  refine i0k rfl (v := .slice va bs.length vc) (by have c:=HR.out.cell 2 _ rfl;go_simp) ?_
  refine hK.out _ _ hS ?_;refine' qzy
  refine H.bsB (i:=10) (by simp only[List.getElem?_toArray,List.getElem?_cons_succ,List.getElem?_cons_zero];rfl) (by kernel_rfl) (by kernel_rfl) rfl _ rfl (c:=c) rfl (Sc.of HR1.out) ?_
  refine' qz0
 case' wb=>
  refine c1g rfl _ rfl (c:=c) rfl ?_;refine hK.out _ _ (Sc.of HR1.out) ?_;refine' qz49
  refine i0k rfl (v := .slice va bs.length vc) (by have c:=HR1.out.cell 2 _ rfl;go_simp) ?_
  refine hK.out _ _ (Sc.of HR1.out) ?_;refine' qzy
 · clear hS HR HO;generalize w0.alloc (.cells #[.int .u8 c,.int .u8 1] 5)=W1 at *;generalize w0.heap.size=g1 at *;have hne1:=Lib.hid (x0f HO1.out HR1.out neW);have hlt1:=HR1.out.lt;refine' qz62;refine' qzae
   have HR2:Hid (Bk 98 W2 b #[.int .i64 c,.string nx,.slice va bs.length vc]):=Lib.hid ((hgrow.block b hlt1 (fun e=>hne1.out e.symm)).trans HR1.out)
   obtain⟨va2,vc2,rfl⟩:=b0d hown2;have HO2:=Lib.hid hown2
   have hBw2:B≤W2.heap.size:=by have:=hb2.size;omega
   clear hown2 hgrow hb2 HR1 HO1 HC1 hne1 hlt1
   have HL2:=Lib.hid (show(bs++nw).length≤900002 by rw[List.length_append,HN.out.2];have:=HLn.out;omega)
   clear HN;generalize bs++nw=bs2 at *;have hS2:=Sc.of HR2.out
   refine H.take (i:=12) (v:=?v12_1) (by simp only[List.getElem?_toArray,List.getElem?_cons_succ,List.getElem?_cons_zero];rfl) (by kernel_rfl) rfl (by kernel_rfl) (by kernel_rfl) (by kernel_rfl) (fun _ _ _ h=>h) ?h12_1 hS2 ?_
   case h12_1=>(intro w hw;go_simp;first|done|(with_reducible rfl))
   refine' qz0
   refine H.take (i:=13) (v:=?v13_1) (by simp only[List.getElem?_toArray,List.getElem?_cons_succ,List.getElem?_cons_zero];rfl) (by kernel_rfl) rfl (by kernel_rfl) (by kernel_rfl) (by kernel_rfl) (fun _ _ _ h=>h) ?h13_1 hS2 ?_
   case h13_1=>(intro w hw;go_simp;first|done|(with_reducible rfl))
   refine' qza3;have fx:=HR2.out.frozen 2;refine' qz82;replace bel:=bel.setCell (p:=⟨b,2,none⟩) hBb (.slice va2 bs2.length vc2);refine' qz8j;go_simp;refine hK.out _ _ (Sc.of HR3.out) ?_;clear hK K;refine' qz1;clear HR2 HO2 cx fx hS2;generalize World.setCell _ _ _=W3 at *;replace HR3:=Lib.hid HR3.out.drew;replace HO3:Hid (Own B W3.drew (.slice va2 bs2.length vc2) bs2):=Lib.hid HO3.out;replace bel:=bel.drew;replace hBw2:B≤W3.drew.heap.size:=hBw2
   go_upto_region 1 with fail
   refine wp_region_held_drew (S:=Sc b c) (by kernel_rfl) (Sc.of HR3.out) (fun hS=>?_)
   generalize W3.drew=w4 at *;refine H.tk (i:=0) (v:=?v0_1) ?h0_1 hS ?_
   case h0_1=>(intro w hw;go_simp;first|done|(with_reducible rfl))
   refine' qz0;refine H.tk (i:=1) (v:=?v1_1) ?h1_1 hS ?_
   case h1_1=>(intro w hw;go_simp;first|done|(with_reducible rfl))
   refine' qz0;refine H.tk (i:=2) (v:=?v2_1) ?h2_1 hS ?_
   case h2_1=>(intro w hw;go_simp;first|done|(with_reducible rfl))
   refine' qz0;refine H.tk (i:=3) (v:=?v3_1) ?h3_1 hS ?_
   case h3_1=>(intro w hw;go_simp;first|done|(with_reducible rfl))
   refine' qz0
   refine H.two (i:=4) (j:=5) (by simp only[List.getElem?_toArray,List.getElem?_cons_succ,List.getElem?_cons_zero];rfl) (by kernel_rfl) (by simp only[List.getElem?_toArray,List.getElem?_cons_succ,List.getElem?_cons_zero];rfl) (by kernel_rfl) (by kernel_rfl) (fun K hK=>?wc_1) (fun K hK=>?wd_1)
   case' wc_1=>
    refine i0k rfl (v := .slice va2 bs2.length vc2) (by have c:=HR3.out.cell 2 _ rfl;go_simp) ?_
    refine hK.out _ _ hS ?_;clear hK K;refine' qzl;go_simp;refine(PZ.out _).mono ?_;refine' qzbm;refine' qzy
   case' wd_1=>
    go_simp;refine(PZ.out _).mono ?_;refine' qzbm;refine' qz49
    refine i0k rfl (v := .slice va2 bs2.length vc2) (by have c:=(HR3.out.below hb4).cell 2 _ rfl;go_simp) ?_
    refine hK.out _ _ (Sc.of (HR3.out.below hb4)) ?_;refine' qzy
   all_goals
    have HR4:=Lib.hid (HR3.out.below hb4);have HO4:=Lib.hid (HO3.out.below hb4);replace bel:=bel.trans (hb4.mono hBw2)
    have hBw4:B≤W4.heap.size:=by have:=hb4.size;omega
    clear hS HR3 HO3 hb4;have hne1:=Lib.hid (x0f HO4.out HR4.out neW);have hlt1:=HR4.out.lt;refine' qz6j;refine' qz0;replace bel:=bel.trans hb5
    have HR5:Hid (Bk 98 W5 b #[.int .i64 c,.string nx,.slice va2 bs2.length vc2]):=Lib.hid ((hgrow.block b hlt1 (fun e=>hne1.out e.symm)).trans HR4.out)
    rw[HZ2.out.1,←HH.out]at hown5;obtain⟨va5,vc5,rfl⟩:=b0d hown5;have HO5:=Lib.hid hown5;clear hown5 hgrow hb5 HR4 HO4 hne1 hlt1 HH HZ2 HL2;generalize hx5:bs++hdL c=bs5 at *;have HX5:=Lib.hid hx5;clear hx5;have hS5:=Sc.of HR5.out
    refine H.take (i:=7) (v:=?u7_1) (by simp only[List.getElem?_toArray,List.getElem?_cons_succ,List.getElem?_cons_zero];rfl) (by kernel_rfl) rfl (by kernel_rfl) (by kernel_rfl) (by kernel_rfl) (fun _ _ _ h=>h) ?g7_1 hS5 ?_
    case g7_1=>(intro w hw;go_simp;first|done|(with_reducible rfl))
    refine' qz0
    refine H.take (i:=8) (v:=?u8_1) (by simp only[List.getElem?_toArray,List.getElem?_cons_succ,List.getElem?_cons_zero];rfl) (by kernel_rfl) rfl (by kernel_rfl) (by kernel_rfl) (by kernel_rfl) (fun _ _ _ h=>h) ?g8_1 hS5 ?_
    case g8_1=>(intro w hw;go_simp;first|done|(with_reducible rfl))
    refine' qz0;have cx:=HR5.out.cell 2 _ rfl;have fx:=HR5.out.frozen 2;refine' qz83;replace bel:=bel.setCell (p:=⟨b,2,none⟩) hBb (.slice va5 bs5.length vc5);refine' qz4a;refine hK.out _ _ (Sc.of HR6.out) ?_;clear hK K;refine' qz1;clear HR5 HO5 cx fx hS5;generalize World.setCell _ _ _=W6 at *;go_wp2;go_end0
    exact⟨rfl,by rw[HX5.out];exact⟨hBb,_,HR6.out,HO6.out⟩,bel⟩
 · clear hS HR HO;generalize w0.alloc (.cells #[.int .u8 c,.int .u8 1] 5)=W1 at *;generalize w0.heap.size=g1 at *;have hne1:=Lib.hid (x0f HO1.out HR1.out neW);have hlt1:=HR1.out.lt;refine' qz62;refine' qzae
   have HR2:Hid (Bk 98 W2 b #[.int .i64 c,.string nx,.slice va bs.length vc]):=Lib.hid ((hgrow.block b hlt1 (fun e=>hne1.out e.symm)).trans HR1.out)
   obtain⟨va2,vc2,rfl⟩:=b0d hown2;have HO2:=Lib.hid hown2
   have hBw2:B≤W2.heap.size:=by have:=hb2.size;omega
   clear hown2 hgrow hb2 HR1 HO1 HC1 hne1 hlt1
   have HL2:=Lib.hid (show(bs++nw).length≤900002 by rw[List.length_append,HN.out.2];have:=HLn.out;omega)
   clear HN;generalize bs++nw=bs2 at *;have hS2:=Sc.of HR2.out
   refine H.take (i:=12) (v:=?v12_2) (by simp only[List.getElem?_toArray,List.getElem?_cons_succ,List.getElem?_cons_zero];rfl) (by kernel_rfl) rfl (by kernel_rfl) (by kernel_rfl) (by kernel_rfl) (fun _ _ _ h=>h) ?h12_2 hS2 ?_
   case h12_2=>(intro w hw;go_simp;first|done|(with_reducible rfl))
   refine' qz0
   refine H.take (i:=13) (v:=?v13_2) (by simp only[List.getElem?_toArray,List.getElem?_cons_succ,List.getElem?_cons_zero];rfl) (by kernel_rfl) rfl (by kernel_rfl) (by kernel_rfl) (by kernel_rfl) (fun _ _ _ h=>h) ?h13_2 hS2 ?_
   case h13_2=>(intro w hw;go_simp;first|done|(with_reducible rfl))
   refine' qza3;have fx:=HR2.out.frozen 2;refine' qz82;replace bel:=bel.setCell (p:=⟨b,2,none⟩) hBb (.slice va2 bs2.length vc2);refine' qz8j;go_simp;refine hK.out _ _ (Sc.of HR3.out) ?_;clear hK K;refine' qz1;clear HR2 HO2 cx fx hS2;generalize World.setCell _ _ _=W3 at *;replace HR3:=Lib.hid HR3.out.drew;replace HO3:Hid (Own B W3.drew (.slice va2 bs2.length vc2) bs2):=Lib.hid HO3.out;replace bel:=bel.drew;replace hBw2:B≤W3.drew.heap.size:=hBw2
   go_upto_region 1 with fail
   refine wp_region_held_drew (S:=Sc b c) (by kernel_rfl) (Sc.of HR3.out) (fun hS=>?_)
   generalize W3.drew=w4 at *;refine H.tk (i:=0) (v:=?v0_2) ?h0_2 hS ?_
   case h0_2=>(intro w hw;go_simp;first|done|(with_reducible rfl))
   refine' qz0;refine H.tk (i:=1) (v:=?v1_2) ?h1_2 hS ?_
   case h1_2=>(intro w hw;go_simp;first|done|(with_reducible rfl))
   refine' qz0;refine H.tk (i:=2) (v:=?v2_2) ?h2_2 hS ?_
   case h2_2=>(intro w hw;go_simp;first|done|(with_reducible rfl))
   refine' qz0;refine H.tk (i:=3) (v:=?v3_2) ?h3_2 hS ?_
   case h3_2=>(intro w hw;go_simp;first|done|(with_reducible rfl))
   refine' qz0
   refine H.two (i:=4) (j:=5) (by simp only[List.getElem?_toArray,List.getElem?_cons_succ,List.getElem?_cons_zero];rfl) (by kernel_rfl) (by simp only[List.getElem?_toArray,List.getElem?_cons_succ,List.getElem?_cons_zero];rfl) (by kernel_rfl) (by kernel_rfl) (fun K hK=>?wc_2) (fun K hK=>?wd_2)
   case' wc_2=>
    refine i0k rfl (v := .slice va2 bs2.length vc2) (by have c:=HR3.out.cell 2 _ rfl;go_simp) ?_
    refine hK.out _ _ hS ?_;clear hK K;refine' qzl;go_simp;refine(PZ.out _).mono ?_;refine' qzbm;refine' qzy
   case' wd_2=>
    go_simp;refine(PZ.out _).mono ?_;refine' qzbm;refine' qz49
    refine i0k rfl (v := .slice va2 bs2.length vc2) (by have c:=(HR3.out.below hb4).cell 2 _ rfl;go_simp) ?_
    refine hK.out _ _ (Sc.of (HR3.out.below hb4)) ?_;refine' qzy
   all_goals
    have HR4:=Lib.hid (HR3.out.below hb4);have HO4:=Lib.hid (HO3.out.below hb4);replace bel:=bel.trans (hb4.mono hBw2)
    have hBw4:B≤W4.heap.size:=by have:=hb4.size;omega
    clear hS HR3 HO3 hb4;have hne1:=Lib.hid (x0f HO4.out HR4.out neW);have hlt1:=HR4.out.lt;refine' qz6j;refine' qz0;replace bel:=bel.trans hb5
    have HR5:Hid (Bk 98 W5 b #[.int .i64 c,.string nx,.slice va2 bs2.length vc2]):=Lib.hid ((hgrow.block b hlt1 (fun e=>hne1.out e.symm)).trans HR4.out)
    rw[HZ2.out.1,←HH.out]at hown5;obtain⟨va5,vc5,rfl⟩:=b0d hown5;have HO5:=Lib.hid hown5;clear hown5 hgrow hb5 HR4 HO4 hne1 hlt1 HH HZ2 HL2;generalize hx5:bs++hdL c=bs5 at *;have HX5:=Lib.hid hx5;clear hx5;have hS5:=Sc.of HR5.out
    refine H.take (i:=7) (v:=?u7_2) (by simp only[List.getElem?_toArray,List.getElem?_cons_succ,List.getElem?_cons_zero];rfl) (by kernel_rfl) rfl (by kernel_rfl) (by kernel_rfl) (by kernel_rfl) (fun _ _ _ h=>h) ?g7_2 hS5 ?_
    case g7_2=>(intro w hw;go_simp;first|done|(with_reducible rfl))
    refine' qz0
    refine H.take (i:=8) (v:=?u8_2) (by simp only[List.getElem?_toArray,List.getElem?_cons_succ,List.getElem?_cons_zero];rfl) (by kernel_rfl) rfl (by kernel_rfl) (by kernel_rfl) (by kernel_rfl) (fun _ _ _ h=>h) ?g8_2 hS5 ?_
    case g8_2=>(intro w hw;go_simp;first|done|(with_reducible rfl))
    refine' qz0;have cx:=HR5.out.cell 2 _ rfl;have fx:=HR5.out.frozen 2;refine' qz83;replace bel:=bel.setCell (p:=⟨b,2,none⟩) hBb (.slice va5 bs5.length vc5);refine' qz4a;refine hK.out _ _ (Sc.of HR6.out) ?_;clear hK K;refine' qz1;clear HR5 HO5 cx fx hS5;generalize World.setCell _ _ _=W6 at *;go_wp2;go_end0
    exact⟨rfl,by rw[HX5.out];exact⟨hBb,_,HR6.out,HO6.out⟩,bel⟩
def ckA (c:Int)(m:M):Int:=if m.cmd=c then 0 else 7
theorem m1o (B b:Nat)(c:Int)(nx:ByteArray)(bs:List UInt8)(m:M)(w:World)(h:Wri B b c nx bs w)(hB:B≤w.heap.size)(hl:bs.length≤65000)(h1:Rte.OkE (hopE m.next))(h2:Rte.OkE (entM m)) :
    Calls Tryz.prog 98 #[.pointer (some ⟨b,0,none⟩),.agg m.cells] w fun r w'=>r = .returned (.int .i64 (ckA c m))∧(ckA c m=0→Wri B b c m.next (bs++(entsM nx m).flatMap putL) w')∧Below B w w':=by
 have P1:=Lib.hid (fun bs' W (h:Wri B b c m.next bs' W) (hB:B≤W.heap.size) (hl:bs'.length≤900000)=>y0v B b c m.next bs' (hopE m.next) W h hB hl h1)
 have P2:=Lib.hid (fun bs' W (h:Wri B b c m.next bs' W) (hB:B≤W.heap.size) (hl:bs'.length≤900000)=>y0v B b c m.next bs' (entM m) W h hB hl h2)
 have HA:=Lib.hid (show ckA c m=if m.cmd=c then 0 else 7 from rfl)
 have HE:=Lib.hid (show entsM nx m=(if m.next=nx then []else [hopE m.next]) ++ [entM m]from rfl)
 have HL1:=Lib.hid (q0k (hopE m.next))
 have HL2:=Lib.hid (q0k (entM m));obtain⟨b0,bel⟩:=boxed w m;have hr:=h.below bel;have hlt:=h.lt;replace bel:=bel.mono hB;clear h h1 h2;refine' qzi;have hsz:=Bk.b0a w (.cells m.cells 29);generalize w.alloc (.cells m.cells 29)=V at *
 have hBV:B≤V.heap.size:=by omega
 generalize w.heap.size=g at *
 have hgb:g≠b:=by omega
 obtain⟨hBb,v,hb,hown⟩:=hr;have c1:=b0.cs.c1;have d0:=hb.cell 0 _ rfl;refine' qzcf;have B0:=Lib.hid b0;clear hb hown b0;by_cases hc:m.cmd=c;rotate_left
 · have HZ:=Lib.hid (show ckA c m=7 by rw[HA.out,if_neg hc])
   have e1:(m.cmd==c)=false:=by simpa using hc
   have e2:(m.cmd != c)=true:=by rw[bne,e1];rfl
   clear HA hc;go_region;refine' qzj
   exact⟨int_eq HZ.out.symm,fun h=>absurd h (by rw[HZ.out];decide),bel.drew⟩
 have HZ:=Lib.hid (show ckA c m=0 by rw[HA.out,if_pos hc])
 have e1:(m.cmd==c)=true:=by simpa using hc
 have e2:(m.cmd != c)=false:=by rw[bne,e1];rfl
 clear HA hc;go_region;replace bel:=bel.drew;replace hBV:B≤V.drew.heap.size:=hBV;have HB:=Lib.hid HB.out.drew;have HO:Hid (Own B V.drew v bs):=Lib.hid HO.out
 have B0:=Lib.hid (show Bx V.drew g m from B0.out)
 clear e1 e2 c1 d0;generalize V.drew=V1 at *;refine' qzcn;have c9:=B0.out.cs.c9;have d1:=HB.out.cell 1 _ rfl
 by_cases hn:m.next=nx
 case' pos=>
  have e1:(m.next.toList==nx.toList)=true:=by rw[hn];exact beq_self_eq_true _
  have e2:(m.next.toList != nx.toList)=false:=by rw[bne,e1];rfl
  have HE:=Lib.hid (show(entsM nx m).flatMap putL = []++putL (entM m) by rw[HE.out,if_pos hn];simp)
  have HNx:=Lib.hid hn.symm;clear hn;go_region;replace bel:=bel.drew;replace hBV:B≤V1.drew.heap.size:=hBV
  have HW:Hid (Wri B b c m.next (bs ++ []) V1.drew):=Lib.hid (by rw[List.append_nil,HNx.out.symm];exact⟨hBb,v,HB.out.drew,HO.out⟩)
  have B0:=Lib.hid (show Bx V1.drew g m from B0.out)
  have HLx:Hid ((bs ++ []).length≤65020):=Lib.hid (by simp;omega)
  clear e1 e2 c9 d1 HB HO HNx P1 HL1;generalize V1.drew=V2 at *;generalize ([]:List UInt8)=part at *;refine' qzcp
 case' neg=>
  have e1:(m.next.toList==nx.toList)=false:=by
   rw[beq_eq_false_iff_ne];intro h;rw[ByteArray.toList_eq,ByteArray.toList_eq]at h;exact hn (Rte.k0a h)
  have e2:(m.next.toList != nx.toList)=true:=by rw[bne,e1];rfl
  have HE:=Lib.hid (show(entsM nx m).flatMap putL=putL (hopE m.next)++putL (entM m) by rw[HE.out,if_neg hn];simp)
  clear hn;go_region;replace bel:=bel.drew;replace hBV:B≤V1.drew.heap.size:=hBV;have HB:=Lib.hid HB.out.drew;have HO:Hid (Own B V1.drew v bs):=Lib.hid HO.out
  have B0:=Lib.hid (show Bx V1.drew g m from B0.out)
  clear e1 e2 c9 d1;generalize V1.drew=V2 at *;have c9:=B0.out.cs.c9;have d1:=HB.out.cell 1 _ rfl;have f1:=HB.out.frozen 1;refine' qzcv
  have HW:=Lib.hid (show Wri B b c m.next bs (V2.setCell ⟨b,1,none⟩ (.string m.next))from⟨hBb,v,HB.out.set rfl,o0e HO.out HB.out neW⟩)
  have B0:=Lib.hid (show Bx (V2.setCell ⟨b,1,none⟩ (.string m.next)) g m from B0.out.off (p:=⟨b,1,none⟩) (by show g≠b;omega) _)
  replace bel:=bel.setCell (p:=⟨b,1,none⟩) hBb (.string m.next)
  replace hBV:B≤(V2.setCell ⟨b,1,none⟩ (.string m.next)).heap.size:=by simpa using hBV
  clear c9 d1 f1 HB HO;generalize World.setCell _ _ _=V3 at *;have c9:=B0.out.cs.c9
  go_wp2_with (first|(refine d0a rfl 59 _ rfl (hopE m.next).cells (by kernel_rfl) ?_))
  refine(P1.out bs _ HW.out hBV (by omega)).mono ?_
  rintro r w1 ⟨rfl,hw1,hb1,ho1⟩;replace bel:=bel.trans hb1
  replace hBV:B≤w1.heap.size:=by have:=hb1.size;omega
  have B0:=Lib.hid (ho1.bx hgb B0.out);have HW:=Lib.hid hw1
  have HLx:Hid ((bs++putL (hopE m.next)).length≤65020):=Lib.hid (by have:=HL1.out;simp;omega)
  clear c9 hw1 hb1 ho1 P1 HL1
  generalize putL (hopE m.next)=part at *
  refine' qzcp
 all_goals
  have c6:=B0.out.cs.c6;have c7:=B0.out.cs.c7;have c8:=B0.out.cs.c8;have c10:=B0.out.cs.c10
  go_wp2_with (first|(refine d0a rfl 59 _ rfl (entM m).cells (by kernel_rfl) ?_))
  refine(P2.out (bs++part) _ HW.out hBV (by have:=HLx.out;omega)).mono ?_
  rintro r w2 ⟨rfl,hw2,hb2,ho2⟩;replace bel:=bel.trans hb2
  have HW2:=Lib.hid (show Wri B b c m.next (bs++(entsM nx m).flatMap putL) w2 by rw[HE.out,←List.append_assoc];exact hw2)
  have HLy:=Lib.hid (show(bs++(entsM nx m).flatMap putL).length≤65040 by rw[HE.out,←List.append_assoc,List.length_append];have:=HLx.out;have:=HL2.out;omega)
  clear c6 c7 c8 c10 hw2 hb2 ho2 HW B0 P2 HE HLx HL2;generalize hx5:(entsM nx m).flatMap putL=all at *;have HX5:=Lib.hid hx5;clear hx5;obtain⟨_,v2,hbk,hown⟩:=HW2.out;obtain⟨va2,vc2,rfl⟩:=b0d hown;have d2:=hbk.cell 2 _ rfl;have hge:=Lib.hid HLy.out
  have hg2:¬((65535:Int)<((bs++all).length:Int)):=by have:=HLy.out;omega
  have hg3:decide ((65535:Int)<((bs++all).length:Int))=false:=decide_eq_false hg2;clear hbk hown HLy;generalize (bs++all).length=n2 at *;refine' qzj
  exact⟨int_eq HZ.out.symm,fun _=>by rw[HX5.out];exact HW2.out,bel⟩
end NWr
end Go.Proofs.YtllhobicfclheaaGreatDoor
