/-
  A part of a proof. No conditions.
-/
import Derived.Test.YtllhobicfclheaaGreatDoorY37
import Derived.Test.YtllhobicfclheaaGreatDoorY44
namespace Go.Proofs.YtllhobicfclheaaGreatDoor
open Go.ChangeShapes Go.WideShapes Go.ChangeAt Go.RowKit
set_option linter.unusedVariables false
set_option maxRecDepth 100000
set_option maxHeartbeats 51200000
namespace K6
open Ms Box An Tc K1 Kb K2 K3 K4 K5
open Tl (cellsT)
open Bk (Bk Sh b0a f0a a0a o0a m0a q0a loadVarK d0a)
open Hs
open Go.Proofs.YtllhobicfclheaaGreatDoor.Or (p0a)
theorem h0z (c:Kx)(a t:Int)(d:ByteArray)(w:World)(h:t=6∨t=7∨t=8)(hc:okC c=true)(hs:d.size≤100000)(ht:Tab w) :
    Calls Tryz.prog 295 #[.agg (stC c nilV),.agg (cellsT (a,(d,t)))] w (AnsSt (outC c t d) w):=by
 rcases h with rfl|rfl|rfl
 · have P1:=Lib.hid (fun V (y:Tab V)=>n0u c d V hs)
   have HO:outC c 6 d=out6 c d:=rfl;rw[HO];clear HO hc hs;generalize out6 c d=p at *;refine' qzi;change Code.wp _ _ _ _ (((w.alloc (.cells (stC c nilV) 211)).alloc (.cells (cellsT (a,(d,6))) 110)).alloc (.cells (stC Kx.zero nilV) 211));have S0:=Lib.hid (((Bk.Bk.new 211 w (stC c nilV)).old (.cells (cellsT (a,(d,6))) 110)).old (.cells (stC Kx.zero nilV) 211));have T0:=Bk.Bk.new 110 (w.alloc (.cells (stC c nilV) 211)) (cellsT (a,(d,6)));rw[b0a]at T0;have T0:=Lib.hid (T0.old (.cells (stC Kx.zero nilV) 211));have R0:=Bk.Bk.new 211 ((w.alloc (.cells (stC c nilV) 211)).alloc (.cells (cellsT (a,(d,6))) 110)) (stC Kx.zero nilV);refine' qz70;have HB:=Lib.hid (balloc (balloc (balloc (Below.refl _ w) (.cells (stC c nilV) 211)) (.cells (cellsT (a,(d,6))) 110)) (.cells (stC Kx.zero nilV) 211));have HT:=Lib.hid (ht.below HB.out);have h1:=ht.pos;have hlt:=R0.out.lt;clear ht;generalize ((w.alloc (.cells (stC c nilV) 211)).alloc (.cells (cellsT (a,(d,6))) 110)).alloc (.cells (stC Kx.zero nilV) 211)=W at *;have c0:=T0.out.cell 0 (.int .i64 6) rfl;refine' qz51;refine(P1.out _ HT.out).mono ?_;clear c0 c2 P1;intro e w1 hr;refine' qz8f;have HA:=Lib.hid hA;clear hr hb hA;refine' qz2o
 · have P1:=Lib.hid (fun V (y:Tab V)=>m0x c d V hs y)
   have HO:outC c 7 d=out7 c d:=rfl;rw[HO];clear HO hc hs;generalize out7 c d=p at *;refine' qzi;change Code.wp _ _ _ _ (((w.alloc (.cells (stC c nilV) 211)).alloc (.cells (cellsT (a,(d,7))) 110)).alloc (.cells (stC Kx.zero nilV) 211));have S0:=Lib.hid (((Bk.Bk.new 211 w (stC c nilV)).old (.cells (cellsT (a,(d,7))) 110)).old (.cells (stC Kx.zero nilV) 211));have T0:=Bk.Bk.new 110 (w.alloc (.cells (stC c nilV) 211)) (cellsT (a,(d,7)));rw[b0a]at T0;have T0:=Lib.hid (T0.old (.cells (stC Kx.zero nilV) 211));have R0:=Bk.Bk.new 211 ((w.alloc (.cells (stC c nilV) 211)).alloc (.cells (cellsT (a,(d,7))) 110)) (stC Kx.zero nilV);refine' qz70;have HB:=Lib.hid (balloc (balloc (balloc (Below.refl _ w) (.cells (stC c nilV) 211)) (.cells (cellsT (a,(d,7))) 110)) (.cells (stC Kx.zero nilV) 211));have HT:=Lib.hid (ht.below HB.out);have h1:=ht.pos;have hlt:=R0.out.lt;clear ht;generalize ((w.alloc (.cells (stC c nilV) 211)).alloc (.cells (cellsT (a,(d,7))) 110)).alloc (.cells (stC Kx.zero nilV) 211)=W at *;have c0:=T0.out.cell 0 (.int .i64 7) rfl;refine' qz51;refine(P1.out _ HT.out).mono ?_;clear c0 c2 P1;intro e w1 hr;refine' qz8f;have HA:=Lib.hid hA;clear hr hb hA;refine' qz2o
 · have P1:=Lib.hid (fun V (y:Tab V)=>b0h c a d V hc hs y)
   have HO:outC c 8 d=out8 c d:=rfl;rw[HO];clear HO hc hs;generalize out8 c d=p at *;refine' qzi;refine' qz3z;have T0:=Bk.Bk.new 110 (w.alloc (.cells (stC c nilV) 211)) (cellsT (a,(d,8)));rw[b0a]at T0;refine' qz6u;refine' qz70;refine' qz6k;have h1:=ht.pos;have hlt:=R0.out.lt;refine' qz8d;have c0:=T0.out.cell 0 (.int .i64 8) rfl;refine' qz51;refine(P1.out _ HT.out).mono ?_;clear c0 c2 P1;intro e w1 hr;refine' qz8f;have HA:=Lib.hid hA;clear hr hb hA;refine' qz2o
theorem o1q (c:Kx)(v:Value):∀ j x,(c.cells.toList)[j]?=some x→(stC c v)[0+j]?=some x:=by
 intro j x hx
 match j,hx with
 | 0,hx=>exact hx
 | 1,hx=>exact hx
 | 2,hx=>exact hx
 | 3,hx=>exact hx
 | 4,hx=>exact hx
 | 5,hx=>exact hx
 | 6,hx=>exact hx
 | j+7,hx=>cases hx
theorem infoX:(Tryz.prog.info? 74).map (·.size)=some 7:=by kernel_rfl
theorem n1k (c:Kx)(a t:Int)(d:ByteArray)(w:World)(h:t=6∨t=7∨t=8)(hc:okC c=true)(hs:d.size≤100000)(ht:Tab w) :
    Calls Tryz.prog 252 #[.agg c.cells,.agg (cellsT (a,(d,t)))] w (AnsC (outC c t d) w):=by
 have P1:=Lib.hid (fun V (y:Tab V)=>h0z c a t d V h hc hs y)
 have HE:=Lib.hid (d0f t d hc).err;clear h hc hs;generalize outC c t d=p at *;have HB:=Lib.hid (balloc (balloc (balloc (Below.refl _ w) (.cells c.cells 74)) (.cells (cellsT (a,(d,t))) 110)) (.cells Kx.zero.cells 74));have C0:=Lib.hid (((Bk.Bk.new 74 w c.cells).old (.cells (cellsT (a,(d,t))) 110)).old (.cells Kx.zero.cells 74));have T0:=Bk.Bk.new 110 (w.alloc (.cells c.cells 74)) (cellsT (a,(d,t)));rw[b0a]at T0;have T0:=Lib.hid (T0.old (.cells Kx.zero.cells 74));have R0:=Bk.Bk.new 74 ((w.alloc (.cells c.cells 74)).alloc (.cells (cellsT (a,(d,t))) 110)) Kx.zero.cells;refine' qz70;have HT:=Lib.hid (ht.below HB.out);clear ht;refine' qzi;change Code.wp _ _ _ _ (((w.alloc (.cells c.cells 74)).alloc (.cells (cellsT (a,(d,t))) 110)).alloc (.cells Kx.zero.cells 74));generalize ((w.alloc (.cells c.cells 74)).alloc (.cells (cellsT (a,(d,t))) 110)).alloc (.cells Kx.zero.cells 74)=W at *;have hlt:=R0.out.lt
 go_wp2_with (first|(refine t0c (b:=w.heap.size) (m:=c) rfl _ rfl rfl C0.out ?_)|(refine d0a rfl 211 _ rfl (stC c nilV) (by kernel_rfl) ?_)|(refine Bk.f0a (b:=w.heap.size+1) Tl.shT rfl _ rfl rfl T0.out rfl ?_))
 refine(P1.out _ HT.out).mono ?_;rintro e w1 ⟨qa,qk,l,rfl,hp,hm,hb⟩;have C0:=Lib.hid (C0.out.below hb);refine' qz1m;clear hb P1 T0 HT
 go_upto_region 2 with(refine f0b (b:=w1.heap.size) (c:=Kx.zero) (c':=p.1) (v:=nilV) (q:=qa) (n:=l.length) (k:=qk) rfl _ _ rfl rfl rfl (Bk.Bk.new 211 w1 (stC Kx.zero nilV)) ?_)
 change Code.wp _ _ _ _ ((w1.alloc (.cells (stC Kx.zero nilV) 211)).setRow w1.heap.size (stC p.1 (.slice qa l.length qk)));refine' qz33;have hlt1:=R0.out.lt;have bel:=balloc (Below.refl w1.heap.size w1) (.cells (stC p.1 (.slice qa l.length qk)) 211);have C0:=Lib.hid (C0.out.below bel);refine' qzd;have HM:=Lib.hid (hm.below bel);have HP:=Lib.hid hp;have G0:=Lib.hid (Bk.Bk.new 211 w1 (stC p.1 (.slice qa l.length qk)));clear bel hm hp;generalize w1.alloc (.cells (stC p.1 (.slice qa l.length qk)) 211)=V at *;refine' qzcr;by_cases he:p.2.2=0;rotate_left
 · have HY:=Lib.hid (HE.out he)
   have e1:(p.2.2==0)=false:=by simpa using he
   have e2:(p.2.2 != 0)=true:=by rw[bne,e1];rfl
   clear he HE;generalize p.2.2=x at *
   go_wp2_with (first|(refine t0c (b:=w.heap.size) (m:=c) rfl _ rfl rfl C0.out ?_)|(refine s0b (b:=w.heap.size+1+1) (m:=Kx.zero) (m':=c) rfl _ _ rfl rfl rfl R0.out ?_))
   exact bodyPost_ret (v := .tuple #[.agg c.cells,.slice none 0 0,.int .i64 x]) (t0a rfl _ _ (w.heap.size+1+1) _ rfl (loadVarK shX (R0.out.put c.cells) rfl) (.slice none 0 0) rfl (.int .i64 x) rfl) rfl (AnsC.no HY.out (Box.below_setRow HB.out (by omega) _))
 obtain⟨cc,ml,x⟩:=p;simp only[]at *;subst he;clear HE
 have hcc:∀ W',Bk 211 W' g (stC cc (.slice qa l.length qk))→W'.cell? ⟨g,7,none⟩=some (.slice qa l.length qk):=fun W' h=>h.cell 7 _ rfl
 refine' qzco
 refine wp_region_held_drew (S:=fun W'=>Bk 211 W' g (stC cc (.slice qa l.length qk))) (by kernel_rfl) G0.out.drew (fun hS=>?_)
 refine' qz17
 have HM:=Lib.hid (show MOwn W.heap.size V.drew qa l from HM.out.below (Below.refl _ V).drew)
 have HB:=Lib.hid HB.out.drew;clear G0;generalize V.drew=X0 at *;refine H.tk (i:=0) (v := .pointer (some ⟨g,0,none⟩)) ?h0 hS ?_
 case h0=>exact(fun w hw=>by go_simp)
 refine' qz0;refine H.tk (i:=1) (v := .agg cc.cells) ?h1 hS ?_
 case h1=>exact(fun w hw=>w0z (x := .tmp 20) (l:=cc.cells.toList) rfl rfl hw (o1q cc _) (aggX _) (sizeX _))
 refine' qz0;refine H.tk (i:=2) (v := .pointer (some ⟨g,7,none⟩)) ?h2 hS ?_
 case h2=>exact(fun w hw=>by go_simp)
 refine' qz0;refine H.tk (i:=3) (v := .slice qa l.length qk) ?h3 hS ?_
 case h3=>exact(fun w hw=>by have c:=hcc w hw;go_simp)
 refine' qz0
 have hS':=(show Bk 211 (X0.setRow (w.heap.size+1+1) cc.cells) g (stC cc (.slice qa l.length qk))from hS.row (by omega) _)
 refine Hx.H.storeRow (i:=4) (by simp only[List.getElem?_toArray,List.getElem?_cons_succ,List.getElem?_cons_zero];rfl) (by kernel_rfl) rfl rfl (by kernel_rfl) (w.heap.size+1+1) cc.cells rfl rfl 74 Kx.zero.cells R0.out infoX rfl (oneX cc) hS' ?_
 clear hS;have hS:=hS';clear hS';refine H.tk (i:=5) (v := .slice qa l.length qk) ?h5 hS ?_
 case h5=>exact(fun w hw=>by go_simp)
 refine' qz0
 refine H.tk (i:=6) (v:=(Value.int IntKind.i64 0)) (fun w _=>rfl) hS ?_
 refine' qz8v
 exact bodyPost_ret (v := .tuple #[.agg cc.cells,.slice qa l.length qk,.int .i64 0]) (t0a rfl _ _ (w.heap.size+1+1) _ rfl (loadVarK shX (R0.out.put cc.cells) rfl) (.slice qa l.length qk) rfl (.int .i64 0) rfl) rfl ⟨qa,qk,l,rfl,HP.out,(HM.out.under hlt _).mono (by omega),Box.below_setRow HB.out (by omega) _⟩
end K6
namespace O5
open Ms Box All Tc K1 Kb L2 O1 O3
open F1 (wrap)
open Sb (Bld Oth)
open Bk (Bk b0a)
theorem l1l {B b g:Nat}{l:List UInt8}{w:World}(h:Bld B b l w)(hg:g<B)(cs:Array Value):Bld B b l (w.setRow g cs):=by
 have key:∀ k,B≤k→(w.setRow g cs).heap[k]?=w.heap[k]?:=fun k hk=>setRow_other w g k cs (by omega)
 have own:∀ {e size:Nat} {v:Value} {n:Nat} {xs:List Value},w.ownsRow B e size v n xs→(w.setRow g cs).ownsRow B e size v n xs:=by
  intro e size v n xs h;refine⟨h.1,?_⟩
  rcases h.2 with h|⟨g',cap,cur,a,b,c,d⟩
  · exact .inl h
  · exact .inr ⟨g',cap,cur,a,b,by rw[key g' b];exact c,d⟩
 rcases h with⟨h1,v,h2,h3,h4⟩|⟨h1,v,h2,h3,h4⟩
 · exact .inl ⟨h1,v,by rw[key b h1];exact h2,own h3,h4⟩
 · exact .inr ⟨h1,v,by rw[key b h1];exact h2,own h3,h4⟩
theorem n1h {B b:Nat}{l:List UInt8}{w:World}(h:Bld B b l w):∃ a c,w.cell? ⟨b,1,none⟩=some (.slice a l.length c):=by
 have key:∀ v,w.ownsRow B 5 1 v (Lib.byteCells l).length (Lib.byteCells l)→∃ a c,v = .slice a l.length c:=by
  intro v h;have hl:=Lib.byteCells_length l
  rcases h.2 with⟨hv,h0⟩|⟨g,cap,cur,hv,_⟩
  · refine⟨none,0,?_⟩;rw[hv];congr 1;omega
  · exact⟨some ⟨g,0,none⟩,cap,by rw[hv,hl]⟩
 rcases h with⟨h1,v,h2,h3,h4⟩|⟨h1,v,h2,h3,h4⟩
 · obtain⟨a,c,rfl⟩:=key v h3
   exact⟨a,c,by rw[Lib.cell_of_heap h2];rfl⟩
 · obtain⟨a,c,rfl⟩:=key v h3
   exact⟨a,c,by rw[Lib.cell_of_heap h2];rfl⟩
theorem t1l (B b:Nat)(s:ByteArray)(w:World)(h:Bld B b s.data.toList w):Calls Tryz.prog 192 #[.pointer (some ⟨b,0,none⟩)] w fun e w'=>e = .returned (.int .i64 (s.size:Int))∧w'=w:=by
 obtain⟨a,c,c1⟩:=n1h h
 rw[show s.data.toList.length=s.size from rfl]at c1
 clear h;refine' qz93
theorem x0b (B b:Nat)(s:ByteArray)(w:World)(h:Bld B b s.data.toList w)(hBw:B≤w.heap.size):Calls Tryz.prog 194 #[.pointer (some ⟨b,0,none⟩)] w fun e w'=>e = .returned (.string s)∧Below B w w':=by
 have e:(⟨s.data.toList.toArray⟩:ByteArray)=s:=by rw[Array.toArray_toList]
 have:=Sb.x0b B b _ w h hBw;rw[e]at this;exact this
theorem t0f (B b:Nat)(s r:ByteArray)(w:World)(h:Bld B b s.data.toList w)(hlen:s.size+r.size≤140737488355328)(hBw:B≤w.heap.size) :
    Calls Tryz.prog 193 #[.pointer (some ⟨b,0,none⟩),.string r] w fun e w'=>e = .returned (.tuple #[.int .i64 r.size,.nilIface])∧Bld B b (s++r).data.toList w'∧Below B w w'∧Oth b w w':=by
 have e:(s++r).data.toList=s.data.toList++r.data.toList:=by simp[ByteArray.data_append]
 rw[e];exact Sb.t0f B b _ r w h hlen hBw
theorem l0f (a:Option Addr)(c:Nat)(l:List M)(w:World)(hl:MRow w a l)(hs:∀ m∈l,Sp m)(hn:l.length≤3000)(ht:Tab w):Calls Tryz.prog 190 #[.slice a l.length c] w fun e w'=>∃ (i:Int) (x:Bool),e = .returned (.tuple #[.int .i64 i,.bool x])∧Below w.heap.size w w'∧(x=true→outE l=(ByteArray.empty,i,1))∧(x=false→∀ j (hj:j<l.length),okL l[j]=true):=by
 refine' qzd6;have HSh:=Lib.hid hs;have HT:=Lib.hid ht;clear hs hl ht;go_in;go_wp2
 go_loopw [8] (fun i wr=>∃ k:Nat,k≤l.length∧i = .int .i64 k∧Hid (∀ j (hj:j<l.length),j<k→okL l[j]=true)∧Hid (Below w.heap.size w wr)) (fun i _=>l.length - (intOf i).toNat)
 case atStart=>exact⟨0,Nat.zero_le _,rfl,Lib.hid (fun j _ hj=>absurd hj (Nat.not_lt_zero j)),Lib.hid (Below.refl _ _)⟩
 case round=>
  obtain⟨k,hk,rfl,HO,HB⟩:=hrel;by_cases hlt:k<l.length;rotate_left
  · refine' qz12
    have HA:=Lib.hid (show ∀ j (hj:j<l.length),okL l[j]=true from fun j hj=>HO.out j hj hj)
    clear HO hk hlt;refine' qz2w
    exact⟨0,false,rfl,HB.out,(fun h=>by cases h),fun _=>HA.out⟩
  obtain⟨p,rfl,hpb,hc,-,-⟩:=HMr.out _ HB.out k hlt;have hsp:=HSh.out _ (List.getElem_mem hlt)
  have P1:=Lib.hid (fun W (h:Below w.heap.size w W)=>L5.l0a l[k] W (x0j (HMr.out W h) HSh.out hlt) hsp.2.2.1 hsp.2.2.2 (HT.out.below h))
  have HI:=Lib.hid (fun(h:okL l[k]=false)=>g0d hlt HO.out h)
  have HJ:=Lib.hid (fun(h:okL l[k]=true)=>show ∀ j (hj:j<l.length),j<k+1→okL l[j]=true from fun j hj hjk=>by
   by_cases hik:j<k
   ·
    exact HO.out j hj hik
   ·
    obtain rfl:j=k:=by omega
    exact h)
  have HCk:=Lib.hid hc;have ixk:=indexM p l.length c k hlt;clear hc HO hsp hpb;refine' qz11;generalize okL u=x at *
  go_upto_region 4 with(first|(refine k0d (m:=u) rfl _ rfl rfl HCk.out ?_)|(refine e0a (b:=wr.heap.size) (m:=M.zero) (m':=u) rfl _ _ rfl rfl rfl (heap_alloc_new wr _) ?_))
  refine' qz5b;have bel:=balloc (Below.refl _ wr) (.cells u.cells 29);have BU:=Lib.hid (Bx.new wr u);refine' qzc;clear bel HCk ixk;generalize wr.alloc (.cells u.cells 29)=V7 at *;refine' qzad;refine(P1.out _ HB.out).mono ?_;refine' qz75;refine' qz6;clear hb P1 BU;cases x
  · have HZ:=Lib.hid (HI.out rfl);clear HI HJ;refine' qz2w
    exact⟨k,true,rfl,HB.out,fun _=>HZ.out,(fun h=>by cases h)⟩
  · have HZ:=Lib.hid (HJ.out rfl);clear HI HJ;go_wp2;go_roundw
    case rel=>exact⟨k+1,hlt,by go_num,HZ,HB⟩
    case measure=>simp[intOf];omega
def AnsY (l:List M)(w:World)(e:Ending)(w':World):Prop:=∃ (s:ByteArray) (i er:Int),e = .returned (.tuple #[.string s,.int .i64 i,.int .i64 er])∧Below w.heap.size w w'∧((er=0∧outE l=(wrap s,0,0)∧s.size≤65531)∨(¬er=0∧outE l=(ByteArray.empty,i,er)))
theorem AnsY.no {l:List M}{w w':World}{i er:Int}(h:outE l=(ByteArray.empty,i,er))(he:¬er=0)(hb:Below w.heap.size w w'):AnsY l w (.returned (.tuple #[.string ⟨#[]⟩,.int .i64 i,.int .i64 er])) w':=⟨_,i,er,rfl,hb,.inr ⟨he,h⟩⟩
theorem AnsY.yes {l:List M}{w w':World}{s:ByteArray}(h:outE l=(wrap s,0,0))(hs:s.size≤65531)(hb:Below w.heap.size w w'):AnsY l w (.returned (.tuple #[.string s,.int .i64 0,.int .i64 0])) w':=⟨_,0,0,rfl,hb,.inl ⟨rfl,h,hs⟩⟩
theorem n1n (a b:Nat)(h:a≤100000)(k:b≤100000):IntKind.i64.wrap ((a:Int)+(b:Int))=(a:Int)+(b:Int):=IntWalk.i64_in _ ⟨by omega,by omega⟩
theorem l0k (a:Option Addr)(c:Nat)(l:List M)(w:World)(hl:MRow w a l)(hs:∀ m∈l,Sp m)(hn:l.length≤3000)(ht:Tab w):Calls Tryz.prog 112 #[.slice a l.length c] w (AnsY l w):=by
 have PF:=Lib.hid (l0f a c l w hl hs hn ht);refine' qzd6;have HSh:=Lib.hid hs;have HT:=Lib.hid ht;clear hs hl ht;refine' qz16;refine PF.out.mono ?_;rintro e w1 ⟨i0,x,rfl,hb,hx1,hx2⟩;refine' qz4n;clear hb PF;cases x;rotate_left
 · have HZ:=Lib.hid (hx1 rfl);clear hx1 hx2;refine' qz5w
   exact AnsY.no HZ.out (by decide) HB.out
 have HA:=Lib.hid (hx2 rfl);have S0:=Lib.hid (St.start HA.out);clear hx1 hx2;refine' qzcp;change Code.wp _ _ _ _ ((w1.alloc (.cells Kx.zero.cells 74)).alloc (.cells #[.pointer none,.slice none 0 0] 131));have C0:=Lib.hid ((Bk.Bk.new 74 w1 Kx.zero.cells).old (.cells #[.pointer none,.slice none 0 0] 131))
 have B0:=Lib.hid (show Bld (w1.heap.size+1) (w1.heap.size+1) ByteArray.empty.data.toList ((w1.alloc (.cells Kx.zero.cells 74)).alloc (.cells #[.pointer none,.slice none 0 0] 131)) by
  have:=Sb.t1m (w1.alloc (.cells Kx.zero.cells 74));rw[b0a]at this
  exact this)
 have HB2:=Lib.hid (balloc (balloc HB.out (.cells Kx.zero.cells 74)) (.cells #[.pointer none,.slice none 0 0] 131));have hzg:w.heap.size≤w1.heap.size:=HB.out.size;clear HB;generalize (w1.alloc (.cells Kx.zero.cells 74)).alloc (.cells #[.pointer none,.slice none 0 0] 131)=V at *;refine' qzcr;go_wp2
 go_loopw [23] (fun i wr=>∃ (k:Nat) (q:Kx) (s:ByteArray),k≤l.length∧i = .int .i64 k∧Hid (St l k q s)∧Hid (Bk 74 wr g q.cells)∧Hid (Bld (g+1) (g+1) s.data.toList wr)∧Hid (Below w.heap.size w wr)) (fun i _=>l.length - (intOf i).toNat)
 case atStart=>exact⟨0,Kx.zero,ByteArray.empty,Nat.zero_le _,rfl,S0,C0,B0,HB2⟩
 case round=>
  clear HB2 C0 S0 B0;obtain⟨k,q,s,hk,rfl,HS,HC,HD,HB⟩:=hrel;have hgw:g+1<wr.heap.size:=S3.Bld.lt HD.out;by_cases hlt:k<l.length;rotate_left
  · refine' qz12;have HZ:=Lib.hid HS.out.done;have HZ2:=Lib.hid HS.out.size;clear HS HC hk hlt;refine' qzg
    refine(x0b _ _ s _ HD.out (by omega)).mono ?_
    refine' qz4b
    have HB:=Lib.hid (HB.out.trans (hb.mono (by omega)))
    clear hb HD;refine' qz5w;exact AnsY.yes HZ.out HZ2.out HB.out
  obtain⟨p,rfl,hpb,hc,-,-⟩:=HMr.out _ HB.out k hlt;have hsp:=HSh.out _ (List.getElem_mem hlt)
  have P1:=Lib.hid (fun W (h:Below w.heap.size w W)=>Lv.c0b q l[k] W (x0j (HMr.out W h) HSh.out hlt) hsp.2.1 hsp.2.2.1 hsp.2.2.2 HS.out.ok (HT.out.below h))
  have hst:=HS.out.step hlt (HA.out k hlt);have HPL:=Lib.hid (e1l q l[k]);have HSZ:=Lib.hid HS.out.size;have ixk:=indexM p l.length c k hlt;have HCk:=Lib.hid hc;have HK:=Lib.hid hlt;clear hc hpb hsp HS;refine' qz11;clear hk hlt;obtain⟨r1,q2,er,hr⟩:∃ x y z,putL q u=(x,y,z):=⟨_,_,_,rfl⟩;rw[hr]at P1 hst HPL;have HST:=Lib.hid hst;clear hst hr;refine' qzbz;have bel:=balloc (Below.refl _ wr) (.cells u.cells 29);have BU:=Lib.hid (Bx.new wr u);have HC:=Lib.hid (HC.out.below bel);have HD:=Lib.hid (S3.Bld.below HD.out bel);refine' qzc;clear hgw;clear bel HCk ixk;generalize wr.alloc (.cells u.cells 29)=V7 at *;generalize wr.heap.size=g7 at *
  go_wp2_with (first|(refine t0c (b:=g) (m:=q) rfl _ rfl rfl HC.out ?_)|(refine j0a (b:=g7) (m:=u) rfl _ rfl rfl BU.out ?_))
  refine(P1.out _ HB.out).mono ?_;refine' qz4b;have HC:=Lib.hid (HC.out.below hb);have HD:=Lib.hid (S3.Bld.below HD.out hb);refine' qz6;clear hb P1 BU
  go_upto_region 10 with(refine s0b (b:=w2.heap.size) (m:=Kx.zero) (m':=q2) rfl _ _ rfl rfl rfl (Bk.Bk.new 74 w2 Kx.zero.cells) ?_)
  change Code.wp _ _ _ _ ((w2.alloc (.cells Kx.zero.cells 74)).setRow w2.heap.size q2.cells);refine' qz33;have bel:=balloc (Below.refl w2.heap.size w2) (.cells q2.cells 74);have G2:=Lib.hid (Bk.Bk.new 74 w2 q2.cells);have HC:=Lib.hid (HC.out.below bel);have hg2:g+1<w2.heap.size:=S3.Bld.lt HD.out;have HD:=Lib.hid (S3.Bld.below HD.out bel);refine' qzc;clear bel;generalize w2.alloc (.cells q2.cells 74)=W at *;generalize w2.heap.size=g2 at *;by_cases he:er=0;rotate_left
  · have HY:=Lib.hid (HST.out.1 he);have HE:=Lib.hid he;refine' qz89;clear he HST G2 HC HD;refine' qz5w;exact AnsY.no HY.out HE.out HB.out
  subst he;have HS2:=Lib.hid (HST.out.2.1 rfl);have HS3:=Lib.hid (HST.out.2.2 rfl);clear HST;have hW:g+1<W.heap.size:=S3.Bld.lt HD.out;have hs1:=HSZ.out;have hr1:r1.size≤1000:=HPL.out
  have ad:=n1n s.size r1.size (by omega) (by omega)
  have hsz:(s++r1).size=s.size+r1.size:=ByteArray.size_append;refine' qzg;refine(t1l _ _ s _ HD.out).mono ?_;rintro e w3 ⟨rfl,rfl⟩;by_cases hbig:65531<(s++r1).size
  · have HY:=Lib.hid (HS2.out hbig)
    have h1:(65531:Int)<(s.size:Int)+(r1.size:Int):=by omega
    clear HS2 HS3 hbig hsz;refine' qz5w
    exact AnsY.no HY.out (by decide) HB.out
  have HY:=Lib.hid (HS3.out hbig)
  have h1:¬(65531:Int)<(s.size:Int)+(r1.size:Int):=by omega
  clear HS2 HS3 hbig hsz;refine' qzg
  refine(t0f _ _ s r1 _ HD.out (by omega) (by omega)).mono ?_
  rintro e w4 ⟨rfl,hd,hb,ho⟩;have HD:=Lib.hid hd;have HC:=Lib.hid (HC.out.under hb (Nat.lt_succ_self g))
  have G2:=Lib.hid (show Bk 74 w4 g2 q2.cells from ho g2 74 q2.cells (by omega) (by decide) G2.out)
  have HB:=Lib.hid (HB.out.trans (hb.mono (by omega)))
  clear hd hb ho ad h1 hs1 hr1 hW
  go_upto_region 16 with(first|(refine t0c (b:=g2) (m:=q2) rfl _ rfl rfl G2.out ?_)|(refine s0b (b:=g) (m:=q) (m':=q2) rfl _ _ rfl rfl rfl HC.out ?_))
  have HC:=Lib.hid (HC.out.put q2.cells);have HD:=Lib.hid (l1l HD.out (Nat.lt_succ_self g) q2.cells);have HB:=Lib.hid (Box.below_setRow HB.out hzg q2.cells);clear G2;generalize w4.setRow g q2.cells=W2 at *;have hlt:=HK.out;go_wp2;go_roundw
  case rel=>exact⟨k+1,q2,s++r1,hlt,by go_num,HY,HC,HD,HB⟩
  case measure=>simp[intOf];omega
theorem p0c (a:Option Addr)(c:Nat)(l:List M)(w:World)(hl:MRow w a l)(hs:∀ m∈l,Sp m)(hn:l.length≤3000)(ht:Tab w):Calls Tryz.prog 42 #[.slice a l.length c] w (AnsE (outE l) w):=by
 have P1:=Lib.hid (l0k a c l w hl hs hn ht);clear hl hs hn ht;refine' qz16;refine P1.out.mono ?_;rintro e w1 ⟨s,i,er,rfl,hb,h⟩;refine' qz4n;clear hb P1
 rcases h with⟨rfl,h,hz⟩|⟨he,h⟩
 · have HZ:=Lib.hid h
   have P2:=Lib.hid (fun V=>F6.m1j s V (by omega))
   clear h hz;refine' qzt;refine' qz50;clear hb P2;refine' qz5w;exact AnsE.of HZ.out HB.out
 · have HZ:=Lib.hid h;refine' qz89;clear h he;refine' qz5w;exact AnsE.of HZ.out HB.out
end O5
namespace Lm
open Ms Box All An Ap Kb
theorem u1g {w:World}{B1 B2:Nat}{e1 e2:TypeId}{s1 s2:Nat}{v1 v2:Value}{n1 n2:Nat}{x1 x2:List Value}(h1:w.ownsRow B1 e1 s1 v1 n1 x1)(h2:w.ownsRow B2 e2 s2 v2 n2 x2)(hn:e1≠e2):v1.ownBlock=none∨v1.ownBlock≠v2.ownBlock:=by
 rcases h1.2 with⟨rfl,_⟩|⟨g,cap,cur,rfl,_,c,_⟩
 · exact .inl rfl
 · refine .inr fun he=>?_
   rcases h2.2 with⟨rfl,_⟩|⟨g2,cap2,cur2,rfl,_,c2,_⟩
   · cases he
   · obtain rfl:g=g2:=Option.some.inj he;rw[c]at c2
     injection c2 with c2
     injection c2 with _ c2
     exact hn c2
def LM (B S:Nat)(w:World)(v:Value)(l:List M):Prop:=Ap.Lst B w v l∧∀ m∈l,m.ll = []∧Sx.Lst S w (.slice m.sa m.sl.length m.sc) m.sl
theorem LM.nil (B S:Nat)(w:World):LM B S w (.slice none 0 0) []:=⟨Ap.Lst.nil B w,fun m hm=>absurd hm (by simp)⟩
theorem LM.below {B S:Nat}{w w':World}{v:Value}{l:List M}(h:LM B S w v l)(hb:Below w.heap.size w w'):LM B S w' v l:=⟨h.1.below hb,fun m hm=>⟨(h.2 m hm).1,(h.2 m hm).2.below hb⟩⟩
theorem LM.slice {B S:Nat}{w:World}{v:Value}{l:List M}(h:LM B S w v l):∃ a c,v = .slice a l.length c:=h.1.slice
theorem n1g {B g:Nat}{w:World}{v:Value}{l:List M}(h:Ap.Lst B w v l)(hg:g<B)(cs:Array Value):Ap.Lst B (w.setRow g cs) v l:=by
 refine' qz2z
theorem LM.under {B S g:Nat}{w:World}{v:Value}{l:List M}(h:LM B S w v l)(hg:g<B)(hs:g<S)(cs:Array Value):LM B S (w.setRow g cs) v l:=⟨n1g h.1 hg cs,fun m hm=>⟨(h.2 m hm).1,f0c (h.2 m hm).2 hs cs⟩⟩
theorem LM.own {B S:Nat}{w:World}{a:Option Addr}{c:Nat}{l:List M}(h:LM B S w (.slice a l.length c) l)(hS:S≤B):MOwn S w a l:=by
 intro i hi
 rcases h.1.2 with⟨hv,h0⟩|⟨g,cap,cur,hv,hB,hg,hcap,_,hsz,ht⟩
 · omega
 · have ha:a=some ⟨g,0,none⟩:=by injection hv
   refine⟨_,ha,Nat.le_trans hS hB,(Array.getElem?_eq_some_iff.1 hg).1,fun j v hj=>?_,(h.2 _ (List.getElem_mem hi)).1,(h.2 _ (List.getElem_mem hi)).2⟩
   have hj25:j<25:=by
    have:=(List.getElem?_eq_some_iff.1 hj).1;simpa[M.cells]using this
   have hr:(rowC l)[i*25+j]?=some v:=by rw[h0p l i j hi hj25];exact hj
   have:=World.ownsRow.cells h.1 (g:=g) (by rw[ha];rfl) _ _ hr
   rw[p0b,Nat.zero_add]at this;rw[p0b,p0b,Nat.zero_add];exact this
theorem g1k (a b:List M):rowC (a++b)=rowC a++rowC b:=by simp[rowC]
theorem v1j {l:List M}:∀ u∈rowC l,u.oneCell'=true:=by
 intro u hu;obtain⟨m,_,h⟩:=List.mem_flatMap.1 hu;have:=oneM m;rw[Array.all_eq_true_iff_forall_mem]at this
 exact this u (by simpa using h)
theorem add_add (p:Addr)(x y:Nat):(p.add x).add y=p.add (x+y):=by
 by_cases h1:x=0
 · subst h1;rw[Nat.zero_add];rfl
 by_cases h2:y=0
 · subst h2;rfl
 unfold Addr.add
 rw[if_neg h2,if_neg h1,if_neg (by omega)]
 simp[Nat.add_assoc]
theorem v1d {B:Nat}{w:World}{p:Addr}{r:List M}(h:MOwn B w (some p) r):∀ j u,(rowC r)[j]?=some u→w.cell? (p.add j)=some u:=by
 intro j u hj
 have hlt:j<r.length*25:=by rw[←s0v];exact(List.getElem?_eq_some_iff.1 hj).1
 have hi:j / 25<r.length:=by omega
 have hm:j%25<25:=by omega
 obtain⟨q,hq,_,_,hc,_⟩:=h (j / 25) hi;obtain rfl:p=q:=Option.some.inj hq
 have he:(rowC r)[j / 25*25+j%25]?=some u:=by rw[show j / 25*25+j%25=j by omega];exact hj
 rw[h0p r _ _ hi hm]at he;have:=hc _ _ he
 rwa [add_add,show j / 25*25+j%25=j by omega]at this
theorem x1i {P:Program}{w:World}(base:Nat)(t ty e:TypeId)(i:TypeInfo)(size c:Nat)(ht:P.underlying t=some (.slice e))(hi:P.info? e=some i)(v:Value)(n:Nat)(xs:List Value)(hown:w.ownsRow base e size v n xs) :
    (Builtin.append_ #[t,t] ty #[v,.slice none 0 c]).run P w = .ok v w:=by
 rcases hown.2 with⟨rfl,rfl⟩|⟨g,cap,cur,rfl,_,_,hnc,_⟩
 · simp[Builtin.append_,run_underlying ht,sizeOf,typeInfo,hi,Builtin.lenOf,Builtin.firstCells]
 · simp[Builtin.append_,run_underlying ht,sizeOf,typeInfo,hi,Builtin.lenOf,Builtin.firstCells,hnc,storeCells]
theorem LM.room {B S:Nat}{w:World}{a:Option Addr}{c:Nat}{l:List M}(h:LM B S w (.slice a l.length c) l):l.length≤c:=by
 rcases h.1.2 with⟨hv,h0⟩|⟨g,cap,cur,hv,_,_,hcap,_⟩
 · omega
 · injection hv with _ _ hv
   omega
theorem w1l {o:Oper}{A:Act}{w:World}{Q:Exit→Act→World→Prop}{K:Act→World→Prop}(s x:Operand)
    (ho:o.op = .call { callee := .builtin .append,args:=#[s,x],argTypes:=#[22,22]}) (B S:Nat) (v:Value) (l r:List M) (a:Option Addr) (c:Nat)
    (hs:A.eval s=v) (hown:LM B S w v l) (hx:A.eval x = .slice a r.length c) (hr:MOwn S w a r)
    (hl:l.length+r.length≤100000) (hB:B≤w.heap.size)
    (h:∀ v' w',LM B S w' v' (l++r)→Below B w w'→w.grownBy w' v.ownBlock→K (A.put o.dst v') w'):Oper.wp Tryz.prog o A w K Q:=by
 obtain⟨i0,hi,hz,hsz,hby⟩:=infoA
 cases a with
 | none=>
  have hr0:r = []:=by
   cases r with
   | nil=>rfl
   | cons m r=>
    obtain⟨q,hq,_⟩:=hr 0 (by simp)
    cases hq
  subst hr0;have hrun:=x1i (P:=Tryz.prog) (w:=w) B 22 o.type 29 i0 25 c Tryz.underlying22 hi v l.length (rowC l) hown.1;unfold Oper.wp;simp[execOp,ho,resolve,invoke,builtin,hs,hx,hrun,Result.andThen]
  exact h v w (by rw[List.append_nil];exact hown) (Below.refl B w) ⟨rfl,rfl,rfl,Nat.le_refl _,fun _ _ _=>rfl⟩
 | some p=>
  refine wp_append_own w s x 22 ho B 29 i0 (.agg M.zero.cells) 25 i0.bytes Tryz.underlying22 hi hz hsz rfl rfl (by decide) v l.length (rowC l) hs hown.1 p r.length c (rowC r) hx (s0v r) (v1d hr) v1j (by unfold maxLen;omega) ?_ hB ?_
  · have:(l.length+r.length)*i0.bytes≤100000*4096:=Nat.mul_le_mul (by omega) hby
    omega
  · intro v' w' h2 h3 _
    refine h v' w' ⟨?_,fun m hm=>?_⟩ ((Below.refl B w).grown h3 hB (fun k hk=>(World.ownsRow.lt hown.1 k hk).1)) h3
    · unfold Ap.Lst;rw[g1k,List.length_append];exact h2
    · rcases List.mem_append.1 hm with k|k
      · exact⟨(hown.2 m k).1,World.ownsRow.kept (hown.2 m k).2 h3 (u1g (hown.2 m k).2 hown.1 (by decide))⟩
      · obtain⟨i,hi,rfl⟩:=List.getElem_of_mem k;obtain⟨_,_,_,_,_,h5,h6⟩:=hr i hi
        exact⟨h5,World.ownsRow.kept h6 h3 (u1g h6 hown.1 (by decide))⟩
theorem i1i {ops:Array Oper}{rest:List Oper}{o:Oper}{A:Act}{w:World}{Q:Exit→Act→World→Prop}(hgd:o.guard=none)(s x:Operand)
    (ho:o.op = .call { callee := .builtin .append,args:=#[s,x],argTypes:=#[22,22]}) (B S:Nat) (v:Value) (l r:List M) (a:Option Addr) (c:Nat)
    (hs:A.eval s=v) (hown:LM B S w v l) (hx:A.eval x = .slice a r.length c) (hr:MOwn S w a r)
    (hl:l.length+r.length≤100000) (hB:B≤w.heap.size)
    (h:∀ v' w',LM B S w' v' (l++r)→Below B w w'→w.grownBy w' v.ownBlock→wpList Tryz.prog ops Q rest (A.put o.dst v') w'):wpList Tryz.prog ops Q (o::rest) A w:=
  wpList_plain hgd fun K hK=>w1l s x ho B S v l r a c hs hown hx hr hl hB fun v' w' h1 h2 h3=>hK _ _ (h v' w' h1 h2 h3)
end Lm
namespace Fq
open Ms Box An K1 Kb I1 Lm
open Tl (cellsT TRow)
open Bk (Bk b0a)
def AnsF (p:List M×Kx×Int×Int)(w:World)(e:Ending)(w':World):Prop:=
  ∃ a k l,e = .returned (.tuple #[.slice a l.length k,.agg p.2.1.cells,.int .i64 p.2.2.1,.int .i64 p.2.2.2])∧PlL l p.1∧MOwn w.heap.size w' a l∧Below w.heap.size w w'∧l.length≤k
theorem AnsF.no {p:List M×Kx×Int×Int}{w w':World}{a e:Int}(h:p=([],Kx.zero,a,e))(hb:Below w.heap.size w w'):AnsF p w (.returned (.tuple #[.slice none 0 0,.agg Kx.zero.cells,.int .i64 a,.int .i64 e])) w':=by
 subst h;exact⟨none,0,[],rfl,PlL.nil,MOwn.nil _ _ _,hb,Nat.le_refl _⟩
def AnsP (p:List M×Int×Int)(w:World)(e:Ending)(w':World):Prop:=
  ∃ a k l,e = .returned (.tuple #[.slice a l.length k,.int .i64 p.2.1,.int .i64 p.2.2])∧PlL l p.1∧MOwn w.heap.size w' a l∧Below w.heap.size w w'
theorem AnsP.no {p:List M×Int×Int}{w w':World}{a e:Int}(h:p=([],a,e))(hb:Below w.heap.size w w'):AnsP p w (.returned (.tuple #[.slice none 0 0,.int .i64 a,.int .i64 e])) w':=by
 subst h;exact⟨none,0,[],rfl,PlL.nil,MOwn.nil _ _ _,hb⟩
theorem PlL.app {a a' b b':List M}(h:PlL a a')(k:PlL b b'):PlL (a++b) (a'++b'):=by
 refine⟨by rw[List.length_append,List.length_append,h.1,k.1],fun i hi hi'=>?_⟩
 by_cases hl:i<a.length
 · rw[List.getElem_append_left hl,List.getElem_append_left (by rw[←h.1];exact hl)]
   exact h.2 i hl (by rw[←h.1];exact hl)
 · rw[List.getElem_append_right (by omega),List.getElem_append_right (by have:=h.1;omega)]
   have hk:=k.2 (i - a.length) (by rw[List.length_append]at hi;omega) (by rw[List.length_append]at hi';have:=h.1;omega)
   simpa only[h.1]using hk
theorem j1s {w:World}{a:Option Addr}{l:List F1.T}(h:TRow w a l)(k:Nat)(hk:k<l.length):∃ p:Addr,a=some p∧∀ W,Below w.heap.size w W→
    W.cell? (p.add (k*3))=some (.int .i64 l[k].2.2)∧W.cell? ((p.add (k*3)).add 1)=some (.int .i64 l[k].1)∧W.cell? ((p.add (k*3)).add 2)=some (.string l[k].2.1):=by
 obtain⟨p,rfl,_⟩:=h k hk
 refine⟨p,rfl,fun W hb=>?_⟩
 obtain⟨q,e,_,c0,c1,c2⟩:=(h.below hb) k hk;obtain rfl:=Option.some.inj e;exact⟨c0,c1,c2⟩
theorem e1i {o:Oper}{ρ:Operand→Value}{x:Operand}{q:Addr}{u:F1.T}{w:World}(ho:o.op = .load 110 x)(hx:ρ x = .pointer (some q))
    (h:w.cell? q=some (.int .i64 u.2.2)∧w.cell? (q.add 1)=some (.int .i64 u.1)∧w.cell? (q.add 2)=some (.string u.2.1)):(execOp ρ o).run Tryz.prog w = .ok (.value (.agg (cellsT u))) w:=by
 have hl:(loadCells q 3).run Tryz.prog w = .ok (cellsT u) w:=by
  have:=run_loadCells_list (P:=Tryz.prog) w q (cellsT u).toList (fun j v hv=>by
   match j,hv with
   | 0,hv=>exact h.1.trans hv
   | 1,hv=>exact h.2.1.trans hv
   | 2,hv=>exact h.2.2.trans hv
   | j+3,hv=>cases hv)
  rw[show(cellsT u).toList.length=3 from rfl]at this
  rw[this]
 have hagg:(isAgg 110).run Tryz.prog w = .ok true w:=by go_simp
 have hsz:(sizeOf 110).run Tryz.prog w = .ok 3 w:=by go_simp
 unfold execOp;simp only[ho,hx,Instr.loadAt,Instr.sureAddr,Sem.run_bind,Sem.run_pure,Result.andThen_ok,loadVar,hagg,if_true,hsz,hl]
def okL (l:List F1.T):Prop:=∀ x∈l,0≤x.2.2∧x.2.2≤255∧x.2.1.size≤255
structure Fo (w:World)(c:Kx)(W:World):Prop where
  r0:Bk 74 W w.heap.size Kx.zero.cells
  c0:Bk 74 W (w.heap.size+1) c.cells
  bel:Below w.heap.size w W
theorem Fo.call {w V W:World}{c:Kx}(h:Fo w c V)(hb:Below V.heap.size V W):Fo w c W:=⟨h.r0.below hb,h.c0.below hb,bcall h.bel hb⟩
theorem Fo.start (w:World):Fo w Kx.zero ((w.alloc (.cells Kx.zero.cells 74)).alloc (.cells Kx.zero.cells 74)):=by
 refine⟨(Bk.Bk.new 74 w Kx.zero.cells).old _,?_,balloc (balloc (Below.refl _ w) _) _⟩;have:=Bk.Bk.new 74 (w.alloc (.cells Kx.zero.cells 74)) Kx.zero.cells;rw[b0a]at this;exact this
theorem Fo.put {w V:World}{c:Kx}(h:Fo w c V)(x:Kx):Fo w x (V.setRow (w.heap.size+1) x.cells):=⟨h.r0.row (by omega) _,h.c0.put x.cells,Box.below_setRow h.bel (by omega) _⟩
theorem n1d {l:List F1.T}{c:Kx}{o:List M}{k:Nat}(hk:k<l.length)(h:outI l=foldI (l.drop k) c o) :
    ((one c l[k].2.2 l[k].2.1).2.2=0→outI l=foldI (l.drop (k+1)) (one c l[k].2.2 l[k].2.1).1 (o++(one c l[k].2.2 l[k].2.1).2.1))∧
    (¬(one c l[k].2.2 l[k].2.1).2.2=0→outI l=([],Kx.zero,l[k].1,(one c l[k].2.2 l[k].2.1).2.2)):=by
 rw[List.drop_eq_getElem_cons hk]at h
 refine⟨fun h0=>?_,fun h0=>h.trans (w0f h0)⟩
 rcases hp:one c l[k].2.2 l[k].2.1 with⟨c',r,e⟩
 rw[hp]at h0;obtain rfl:e=0:=h0;exact h.trans (d0e hp)
theorem r1e {l:List F1.T}{c:Kx}{o:List M}(h:outI l=foldI (l.drop l.length) c o):outI l=(o,c,0,0):=by rw[h,List.drop_length];rfl
theorem s1o {c:Kx}(hc:okC c=true)(t:Int)(d:ByteArray):(one c t d).2.1.length≤1:=by
 rcases(e0k hc t d).told with h|⟨m,h,_⟩<;>rw[h]<;>simp
end Fq
end Go.Proofs.YtllhobicfclheaaGreatDoor
