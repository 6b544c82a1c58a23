/-
  A part of a proof. No conditions.
-/
import Derived.Test.YtllhobicfclheaaGreatDoorY40
import Derived.Test.YtllhobicfclheaaGreatDoorY41
namespace Go.Proofs.YtllhobicfclheaaGreatDoor
open Go.ChangeShapes Go.WideShapes Go.ChangeAt Go.RowKit
set_option linter.unusedVariables false
set_option maxRecDepth 100000
set_option maxHeartbeats 51200000
namespace J5
open Ms Box S1
open S5 (AnsS)
open Nu J1 J2 J4 Rg An Tc
open F1 (bt d0b o0b o0g p0f)
open Cur (numL)
open Bk (Bk Sh loadVarK d0a f0a a0a b0a)
open Hs
theorem v0e {s:ByteArray}{k:Nat}{p:Nat×Bool}(h:(nx s k p).2=false):p.2=false∧p.1+k≤s.size∧nx s k p=(p.1+k,false):=by
 obtain⟨a,y⟩:=p
 cases y with
 | true=>rw[y0g (s:=s) (k:=k) (p:=(a,true)) rfl]at h;cases h
 | false=>
  by_cases hk:a+k≤s.size
  · exact⟨rfl,hk,i0c hk⟩
  · rw[y0j hk]at h;cases h
theorem at1 {s:ByteArray}{a:Nat}(h:a+1≤s.size):rdV s (a,false) 1=bt s a:=(z0x h).trans (o0g s a h)
theorem at2 {s:ByteArray}{a:Nat}(h:a+2≤s.size):rdV s (a,false) 2=num2 s a:=z0x h
theorem isQ (t:Int)(s:ByteArray)(h:t=9∨t=10):(s.size<szJ t→(pQ t s).2=true)∧(¬s.size<szJ t→pQ t s=(szJ t,false)∧RQ t s=hdJ t s):=by
 rcases h with rfl|rfl
 · refine⟨fun h=>?_,fun h=>?_⟩
   · cases e:(pQ 9 s).2
     · obtain⟨f1,g1,_⟩:=v0e (show(nx s 1 (nx s 1 (0,false))).2=false from e)
       obtain⟨_,g0,w0⟩:=v0e f1;rw[w0]at g1;simp only[]at g1;have:s.size<2:=h;omega
     · rfl
   · have h2:2≤s.size:=by have:¬s.size<2:=h;omega
     have e1:nx s 1 (0,false)=(1,false):=i0c (by omega)
     refine⟨?_,?_⟩
     · show nx s 1 (nx s 1 (0,false))=(2,false)
       rw[e1,i0c (by omega)]
     · show R9 s=hd9 s
       unfold R9 hd9
       rw[e1,at1 (by omega),at1 (by omega)]
 · have go:∀ e:(pQ 10 s).2=false,14≤s.size:=fun e=>by
    have e:(nx s 8 (nx s 1 (nx s 1 (nx s 2 (nx s 1 (nx s 1 (0,false))))))).2=false:=e;obtain⟨f5,g5,_⟩:=v0e e;obtain⟨f4,g4,w4⟩:=v0e f5;obtain⟨f3,g3,w3⟩:=v0e f4;obtain⟨f2,g2,w2⟩:=v0e f3;obtain⟨f1,g1,w1⟩:=v0e f2;obtain⟨_,g0,w0⟩:=v0e f1;rw[w4]at g5;rw[w3]at g5;rw[w2]at g5;rw[w1]at g5;rw[w0]at g5;simp only[]at g5;omega
   refine⟨fun h=>?_,fun h=>?_⟩
   · cases e:(pQ 10 s).2
     · have:=go e;have:s.size<14:=h;omega
     · rfl
   · have h14:14≤s.size:=by have:¬s.size<14:=h;omega
     have e1:nx s 1 (0,false)=(1,false):=i0c (by omega)
     have e2:nx s 1 (1,false)=(2,false):=i0c (by omega)
     have e3:nx s 2 (2,false)=(4,false):=i0c (by omega)
     have e4:nx s 1 (4,false)=(5,false):=i0c (by omega)
     have e5:nx s 1 (5,false)=(6,false):=i0c (by omega)
     have e6:nx s 8 (6,false)=(14,false):=i0c (by omega)
     refine⟨?_,?_⟩
     · show nx s 8 (nx s 1 (nx s 1 (nx s 2 (nx s 1 (nx s 1 (0,false))))))=(14,false)
       rw[e1,e2,e3,e4,e5,e6]
     · show R10 s=hd10 s
       unfold R10 hd10
       rw[e1,e2,e3,e4,e5,at1 (by omega),at1 (by omega),at2 (by omega),at1 (by omega),r0w (by omega)]
def pU (s:ByteArray):Nat×Bool:=nx s 2 (nx s 2 (nx s 2 (nx s 1 (nx s 1 (nx s 1 (nx s 1 (0,false)))))))
theorem isU (s:ByteArray):(s.size<10→(pU s).2=true)∧(¬s.size<10→pU s=(10,false)∧R8 s=hdK s):=by
 refine⟨fun h=>?_,fun h=>?_⟩
 · cases e:(pU s).2
   · have e:(nx s 2 (nx s 2 (nx s 2 (nx s 1 (nx s 1 (nx s 1 (nx s 1 (0,false)))))))).2=false:=e;obtain⟨f6,g6,_⟩:=v0e e;obtain⟨f5,g5,w5⟩:=v0e f6;obtain⟨f4,g4,w4⟩:=v0e f5;obtain⟨f3,g3,w3⟩:=v0e f4;obtain⟨f2,g2,w2⟩:=v0e f3;obtain⟨f1,g1,w1⟩:=v0e f2;obtain⟨_,g0,w0⟩:=v0e f1;rw[w5]at g6;rw[w4]at g6;rw[w3]at g6;rw[w2]at g6;rw[w1]at g6;rw[w0]at g6;simp only[]at g6;omega
   · rfl
 · have e1:nx s 1 (0,false)=(1,false):=i0c (by omega)
   have e2:nx s 1 (1,false)=(2,false):=i0c (by omega)
   have e3:nx s 1 (2,false)=(3,false):=i0c (by omega)
   have e4:nx s 1 (3,false)=(4,false):=i0c (by omega)
   have e5:nx s 2 (4,false)=(6,false):=i0c (by omega)
   have e6:nx s 2 (6,false)=(8,false):=i0c (by omega)
   have e7:nx s 2 (8,false)=(10,false):=i0c (by omega)
   refine⟨?_,?_⟩
   · show nx s 2 (nx s 2 (nx s 2 (nx s 1 (nx s 1 (nx s 1 (nx s 1 (0,false)))))))=(10,false)
     rw[e1,e2,e3,e4,e5,e6,e7]
   · unfold R8 hdK
     rw[e1,e2,e3,e4,e5,e6,at1 (by omega),at1 (by omega),at1 (by omega),at1 (by omega),at2 (by omega),at2 (by omega),at2 (by omega)]
def cellsN (x:En)(sa:Option Addr)(sc:Nat):Array Value:=#[.string x.bytes,.slice sa x.sl.length sc,.bool x.known]
theorem oneN (x:En)(sa:Option Addr)(sc:Nat):((cellsN x sa sc).all fun x=>x.oneCell')=true:=by simp[cellsN,Value.oneCell']
theorem shN:Sh Tryz.prog 217 3:=⟨_,Tryz.underlying217,by kernel_rfl⟩
theorem s0f {ops:Array Oper}{rest:List Oper}{o:Oper}{a:Act}{w:World}{Q:Exit→Act→World→Prop}(hgd:o.guard=none)(x y:Operand)(ho:o.op = .store 217 x y){b:Nat}(hx:a.eval x = .pointer (some ⟨b,0,none⟩))(m':En)(sa:Option Addr)(sc:Nat){m:En}{sa0:Option Addr}{sc0:Nat}(hy:a.eval y = .agg (cellsN m' sa sc))(hb:Bk 217 w b (cellsN m sa0 sc0))
    (h:wpList Tryz.prog ops Q rest (a.put o.dst undef) (w.setRow b (cellsN m' sa sc))):wpList Tryz.prog ops Q (o::rest) a w:=a0a shN hgd x y ho hx hy hb rfl rfl (oneN m' sa sc) h
def AnsE (o:En×Bool×Int)(b:Nat)(w:World)(e:Ending)(w':World):Prop:=
  ∃ sa sc,e = .returned (.tuple #[.agg (cellsN o.1 sa sc),.bool o.2.1,.int .i64 o.2.2])∧Sx.Lst w.heap.size w' (.slice sa o.1.sl.length sc) o.1.sl∧Bel w.heap.size b w w'
theorem AnsE.no {o:En×Bool×Int}{b:Nat}{w w':World}{d:Int}(h:o=(En.zero,false,d))(hb:Bel w.heap.size b w w'):AnsE o b w (.returned (.tuple #[.agg (cellsN En.zero none 0),.bool false,.int .i64 d])) w':=by
 subst h;exact⟨none,0,rfl,Sx.Lst.nil _ _,hb⟩
theorem AnsE.yes {o:En×Bool×Int}{b B:Nat}{w w':World}{x:En}{sa:Option Addr}{sc:Nat}(h:o=(x,true,0))(hl:Sx.Lst B w' (.slice sa x.sl.length sc) x.sl)(hB:w.heap.size≤B)(hb:Bel w.heap.size b w w'):AnsE o b w (.returned (.tuple #[.agg (cellsN x sa sc),.bool true,.int .i64 0])) w':=by
 subst h;exact⟨sa,sc,rfl,s0e hl hB,hb⟩
theorem o0z (s:ByteArray)(a b:Nat)(ae p om:Int)(o:En×Bool×Int)(ho:o=(En.zero,false,2))(w:World)(hb:Bk 215 w b (cu s (a,true))) :
    Calls Tryz.prog 297 #[.pointer (some ⟨b,0,none⟩),.int .i64 ae,.int .i64 p,.int .i64 om] w (AnsE o b w):=by
 have HY:=Lib.hid ho;have HR:=Lib.hid hb;clear ho hb;refine' qzi;refine' qz6f;refine' qz1t;have hlt:=HR.out.lt;clear HR;generalize w.alloc (.cells (cellsN En.zero none 0) 217)=W at *;have c3:=R0.out.cell 3 (.bool true) rfl;refine' qz4q
theorem p1a (s:ByteArray)(z b:Nat)(ae p om:Int)(hs:s.size≤100000)(hz1:z≤s.size)(h0:0≤ae)(h1:0≤om)(h2:om≤255)(w:World)(hb:Bk 215 w b (cu s (z,false)))(ht:Tab w)(hb0:2<b) :
    Calls Tryz.prog 297 #[.pointer (some ⟨b,0,none⟩),.int .i64 ae,.int .i64 p,.int .i64 om] w (AnsE (endE s z ae p om) b w):=by
 refine' qzd2
 have hzz:¬s.size<z:=by omega
 have HR:=Lib.hid hb;have HT:=Lib.hid ht
 have PA:=Lib.hid (fun V=>v0p ae V)
 have PN:=Lib.hid (fun V (h:Tab V)=>e0q ae p V h)
 have hw0:=ht.pos;clear hb ht;by_cases k:3<ae
 · have HY:=Lib.hid (c0x (p:=p) (om:=om) hzz k)
   rw[decide_eq_false (by omega)]at PA
   generalize endE s z ae p om=o at *;refine' qzi;refine' qz6f;refine' qz1t;have hlt:=HR.out.lt;clear HR;refine' qz44;refine' qzg;refine' qz2l;refine' qz4p;exact bodyPost_ret (v := .tuple #[.agg (cellsN En.zero none 0),.bool false,.int .i64 0]) (t0a rfl _ _ w.heap.size _ rfl (loadVarK shN (X0.out.put (cellsN En.zero none 0)) rfl) (.bool false) rfl (.int .i64 0) rfl) rfl (AnsE.no HY.out (HL.out.row (Nat.le_refl _) _))
 rw[decide_eq_true (by omega)]at PA
 cases g1:lenB ae p
 · have HY:=Lib.hid (y0k (om:=om) hzz k (.inl g1));rw[g1]at PN;clear g1;generalize endE s z ae p om=o at *;refine' qzi;refine' qz6f;refine' qz1t;have hlt:=HR.out.lt;clear HR;refine' qz44;refine' qzg;refine' qz2l;refine' qzg;refine' qz7w;refine' qz4r
 rw[g1]at PN
 have PC:=Lib.hid (fun V=>y0c ae p V g1)
 have hc16:=(count_le g1).1;by_cases g2:(countN ae p:Int)<om
 · have HY:=Lib.hid (y0k hzz k (.inr g2));clear g1;generalize endE s z ae p om=o at *;generalize countN ae p=c at *;refine' qzi;refine' qz6f;refine' qz1t;have hlt:=HR.out.lt;clear HR;refine' qz44;refine' qzg;refine' qz2l;refine' qzg;refine' qz7w;refine' qz5d;refine' qz2k;refine' qz4r
 obtain⟨n,hn⟩:∃ n,countN ae p - om.toNat=n:=⟨_,rfl⟩
 have hr:restN z ae p om=z+n:=by unfold restN;rw[hn]
 have hni:(countN ae p:Int) - om=(n:Int):=by omega
 have hw:wrap64 ((countN ae p:Int) - om)=(n:Int):=by rw[IntWalk.wrap64_in _ ⟨by omega,by omega⟩,hni]
 have PT:=Lib.hid (fun V (h:Bk 215 V b (cu s (z,false)))=>rdtext s (z,false) n b n rfl hm hz1 V h)
 by_cases c2:s.size<z+n
 · have HY:=Lib.hid (s1b hzz k g1 g2 (by rw[hr];exact c2))
   rw[y0j (by omega)]at PT
   clear g1 hr hn;generalize endE s z ae p om=o at *;generalize countN ae p=c at *;generalize rdT s (z,false) n=tx at *;refine' qzi;refine' qz6f;refine' qz1t;have hlt:=HR.out.lt;clear HR;refine' qz44;refine' qzg;refine' qz2l;refine' qzg;refine' qz7w;refine' qz5d;refine' qz2k;refine' qz5d;refine' qz2k;refine' qzg;refine(PT.out _ R0.out).mono ?_;rintro e w2 ⟨rfl,hr2,hbel⟩;refine' qzd1;have hWs:=HL.out.size
   have HL:=Lib.hid (HL.out.trans (hbel.mono (by omega)))
   have R0:=Lib.hid hr2;clear hr2 hbel c3 PT;have c3:=R0.out.cell 3 (.bool true) rfl;refine' qz4q
 have hle:z+n≤s.size:=by omega
 rw[i0c hle,r0w hle]at PT
 have PR:=Lib.hid (fun V r=>u0q s (z+n) b hm hle V r)
 have PS:=Lib.hid (fun V=>S5.c0e (s.extract (z+n) s.size) V (by simp;omega))
 obtain⟨⟨l,kn,er⟩,ho⟩:∃ q,outS (s.extract (z+n) s.size)=q:=⟨_,rfl⟩;rw[ho]at PS;rw[←hr]at ho;by_cases he:er=0;rotate_left
 · have HY:=Lib.hid (t1b hzz k g1 g2 (by rw[hr];exact c2) ho he)
   refine' qz89;clear g1 hr hn ho he;generalize endE s z ae p om=o at *;generalize countN ae p=c at *;generalize s.extract z (z+n)=tx at *;generalize s.extract (z+n) s.size=rx at *;refine' qzi;refine' qz6f;refine' qz1t;have hlt:=HR.out.lt;clear HR;refine' qz44;refine' qzg;refine' qz2l;refine' qzg;refine' qz7w;refine' qz5d;refine' qz2k;refine' qz5d;refine' qz2k;refine' qzg;refine(PT.out _ R0.out).mono ?_;rintro e w2 ⟨rfl,hr2,hbel⟩;refine' qzd1;have hWs:=HL.out.size
   have HL:=Lib.hid (HL.out.trans (hbel.mono (by omega)))
   have R0:=Lib.hid hr2;clear hr2 hbel c3 PT;have c3:=R0.out.cell 3 (.bool false) rfl;refine' qzg;refine(PR.out _ R0.out).mono ?_;rintro e w3 ⟨rfl,hr3,hbel⟩;have hWs2:=X0.out.lt;refine' qzd1;have hWs3:=HL.out.size
   have HL:=Lib.hid (HL.out.trans (hbel.mono (by omega)))
   clear hr3 hbel c3 PR R0;refine' qz5y;rintro e w4 ⟨sa,sc,rfl,hl,hb⟩;have hWs4:=X0.out.lt;have hWs5:=HL.out.size;have X0:=Lib.hid (X0.out.below hb)
   have HL:=Lib.hid (HL.out.trans ((Bel.of hb).mono (by omega)))
   have HK:=Lib.hid hl;clear hb hl PS;simp only[]at HK;refine' qz4p;exact bodyPost_ret (v := .tuple #[.agg (cellsN En.zero none 0),.bool false,.int .i64 er]) (t0a rfl _ _ w.heap.size _ rfl (loadVarK shN (X0.out.put (cellsN En.zero none 0)) rfl) (.bool false) rfl (.int .i64 er) rfl) rfl (AnsE.no HY.out (HL.out.row (Nat.le_refl _) _))
 subst he
 have HY:=Lib.hid (f0p hzz k g1 g2 (by rw[hr];exact c2) ho)
 rw[hr]at HY;clear g1 hr hn ho;generalize endE s z ae p om=o at *;generalize countN ae p=c at *;generalize s.extract z (z+n)=tx at *;generalize s.extract (z+n) s.size=rx at *;refine' qzi;refine' qz6f;refine' qz1t;have hlt:=HR.out.lt;clear HR;refine' qz44;refine' qzg;refine' qz2l;refine' qzg;refine' qz7w;refine' qz5d;refine' qz2k;refine' qz5d;refine' qz2k;refine' qzg;refine(PT.out _ R0.out).mono ?_;rintro e w2 ⟨rfl,hr2,hbel⟩;refine' qzd1;have hWs:=HL.out.size
 have HL:=Lib.hid (HL.out.trans (hbel.mono (by omega)))
 have R0:=Lib.hid hr2;clear hr2 hbel c3 PT;have c3:=R0.out.cell 3 (.bool false) rfl;refine' qzg;refine(PR.out _ R0.out).mono ?_;rintro e w3 ⟨rfl,hr3,hbel⟩;have hWs2:=X0.out.lt;refine' qzd1;have hWs3:=HL.out.size
 have HL:=Lib.hid (HL.out.trans (hbel.mono (by omega)))
 clear hr3 hbel c3 PR R0;refine' qz5y;rintro e w4 ⟨sa,sc,rfl,hl,hb⟩;have hWs4:=X0.out.lt;have hWs5:=HL.out.size;have X0:=Lib.hid (X0.out.below hb)
 have HL:=Lib.hid (HL.out.trans ((Bel.of hb).mono (by omega)))
 have HK:=Lib.hid hl;clear hb hl PS;simp only[]at HK
 go_wp2_with (first|(refine d0a rfl 217 _ rfl (cellsN ⟨tx,l,kn⟩ sa sc) (by kernel_rfl) ?_)|(refine s0f (b:=w.heap.size) rfl _ _ rfl rfl ⟨tx,l,kn⟩ sa sc (m:=En.zero) rfl X0.out ?_))
 exact bodyPost_ret (v := .tuple #[.agg (cellsN ⟨tx,l,kn⟩ sa sc),.bool true,.int .i64 0]) (t0a rfl _ _ w.heap.size _ rfl (loadVarK shN (X0.out.put (cellsN ⟨tx,l,kn⟩ sa sc)) rfl) (.bool true) rfl (.int .i64 0) rfl) rfl (AnsE.yes HY.out (f0c HK.out hWs4 _) hWs5 (HL.out.row (Nat.le_refl _) _))
theorem g0l (s:ByteArray)(z b:Nat)(q:Nat×Bool)(ae p om:Int)(hs:s.size≤100000)(hq:(s.size<z→q.2=true)∧(¬s.size<z→q=(z,false)∧0≤ae∧0≤om∧om≤255))(w:World)(hb:Bk 215 w b (cu s q))(ht:Tab w)(hb0:2<b) :
    Calls Tryz.prog 297 #[.pointer (some ⟨b,0,none⟩),.int .i64 ae,.int .i64 p,.int .i64 om] w (AnsE (endE s z ae p om) b w):=by
 by_cases h:s.size<z
 · obtain⟨a,y⟩:=q;obtain rfl:y=true:=hq.1 h;exact o0z s a b ae p om _ (t0g h) w hb
 · obtain⟨rfl,h0,h1,h2⟩:=hq.2 h
   exact p1a s z b ae p om hs (by omega) h0 h1 h2 w hb ht hb0
end J5
namespace J6
open Ms Box S1 J1 J2 J4 J5 Rg An Tc
open F1 (bt d0b o0b)
open Tl (cellsT)
open Cur (o0c)
open Bk (Bk loadVarK d0a b0a)
open Hs
theorem e0e {B:Nat}{w:World}{v u:Value}{l:List El}{p:Addr}(h:Sx.Lst B w v l)(hg:p.block<B):Sx.Lst B (w.setCell p u) v l:=by
 refine' qz6m
def AnsU (p:Up×Bool×Int)(w:World)(e:Ending)(w':World):Prop:=
  ∃ sa sc,e = .returned (.tuple #[.agg (Up.cells { p.1 with sa:=sa,sc:=sc}),.bool p.2.1,.int .i64 p.2.2])∧
    Sx.Lst w.heap.size w' (.slice sa p.1.sl.length sc) p.1.sl∧Below w.heap.size w w'
theorem AnsU.no {p:Up×Bool×Int}{w w':World}{d:Int}(h:p=(Up.zero,false,d))(hb:Below w.heap.size w w'):AnsU p w (.returned (.tuple #[.agg Up.zero.cells,.bool false,.int .i64 d])) w':=by
 subst h;exact⟨none,0,rfl,Sx.Lst.nil _ _,hb⟩
theorem AnsU.yes {p:Up×Bool×Int}{w w':World}{r:Up}{a:Option Addr}{l:List El}{c B:Nat}(h:p=({ r with sl:=l},true,0))(hl:Sx.Lst B w' (.slice a l.length c) l)(hB:w.heap.size≤B)(hb:Below w.heap.size w w') :
    AnsU p w (.returned (.tuple #[.agg (Up.cells { r with sa:=a,sl:=l,sc:=c}),.bool true,.int .i64 0])) w':=by
 subst h;exact⟨a,c,rfl,s0e hl hB,hb⟩
theorem c0e (t a:Int)(s:ByteArray)(w:World)(h:t=9∨t=10)(hs:s.size≤100000)(ht:Tab w):Calls Tryz.prog 253 #[.agg (cellsT (a,(s,t)))] w (AnsB (outJ t s) w):=by
 refine' qzd2
 have PF:=Lib.hid (fun b V r=>p0k t s b h hm V r)
 have HI:=Lib.hid (isQ t s h)
 have PE:=Lib.hid (fun b V r q hb0 (hq:(s.size<szJ t→(pQ t s).2=true)∧(¬s.size<szJ t→pQ t s=(szJ t,false)∧0≤bt s 0∧(0:Int)≤0∧(0:Int)≤255))=>g0l s (szJ t) b (pQ t s) (bt s 0) (bt s 1) 0 hs hq V r q hb0)
 have PZ:=Lib.hid (fun b V r q hb0 (h:s.size<szJ t)=>g0l s (szJ t) b (pQ t s) (RQ t s).ae (RQ t s).plen 0 hs ⟨fun _=>HI.out.1 h,fun k=>absurd h k⟩ V r q hb0)
 have PN:=Lib.hid (fun V=>o0c s V hm)
 have h0:=ht.pos;refine' qzi;change Code.wp _ _ _ _ ((w.alloc (.cells (cellsT (a,(s,t))) 110)).alloc (.cells M.zero.cells 29));have hz:=b0a w (.cells (cellsT (a,(s,t))) 110);have X0:=Bx.new (w.alloc (.cells (cellsT (a,(s,t))) 110)) M.zero;rw[hz]at X0;have X0:=Lib.hid X0;have T0:=Lib.hid ((Bk.Bk.new 110 w (cellsT (a,(s,t)))).old (.cells M.zero.cells 29));have HB:=Lib.hid (balloc (balloc (Below.refl _ w) (.cells (cellsT (a,(s,t))) 110)) (.cells M.zero.cells 29));have HT:=Lib.hid (ht.below HB.out);clear hz ht;generalize (w.alloc (.cells (cellsT (a,(s,t))) 110)).alloc (.cells M.zero.cells 29)=W at *;have c2:=T0.out.cell 2 (.string s) rfl;refine' qzg;refine(PN.out _).mono ?_;refine' qz75;have X0:=Lib.hid (X0.out.below hb);have T0:=Lib.hid (T0.out.below hb);have HT:=Lib.hid (HT.out.below hb);refine' qz6;clear hb c2 PN;refine' qzb7;change Code.wp _ _ _ _ (w1.alloc (.cells (cu s (0,false)) 215));have bel:=balloc (Below.refl w1.heap.size w1) (.cells (cu s (0,false)) 215);have hlt:=X0.out.lt;have X0:=Lib.hid (X0.out.below bel);have T0:=Lib.hid (T0.out.below bel);refine' qz5s;have R0:=Lib.hid (Bk.Bk.new 215 w1 (cu s (0,false)));clear bel;generalize w1.alloc (.cells (cu s (0,false)) 215)=W1 at *;generalize w1.heap.size=b at *;have c0:=T0.out.cell 0 (.int .i64 t) rfl;refine' qzg;refine(PF.out b _ R0.out).mono ?_;rintro e w2 ⟨rfl,hr,hbel⟩
 have X0:=Lib.hid (hbel.bx (by omega) X0.out)
 have R0:=Lib.hid hr;have hW1:=HB.out.size;refine' qzcc
 have HT:=Lib.hid (hbel.tab (by omega) (by omega) HT.out)
 clear hr hbel c0 T0 PF
 go_upto_region 3 with(refine e0a (b:=w2.heap.size) (m:=M.zero) (m':=RQ t s) rfl _ _ rfl rfl rfl (Bx.new w2 M.zero) ?_)
 change Code.wp _ _ _ _ ((w2.alloc (.cells M.zero.cells 29)).setRow w2.heap.size (RQ t s).cells);refine' qz33;have bel:=balloc (Below.refl w2.heap.size w2) (.cells (RQ t s).cells 29);have hlt2:=R0.out.lt;have X0:=Lib.hid (X0.out.below bel);refine' qzb;refine' qz5s;have XM:=Lib.hid (Bx.new w2 (RQ t s));clear bel;generalize w2.alloc (.cells (RQ t s).cells 29)=V at *;generalize w2.heap.size=g at *;by_cases hsz:s.size<szJ t
 · have HY:=Lib.hid (u0e (t:=t) (d:=s) (t0g hsz))
   have PZ:=Lib.hid (fun b V r q hb0=>PZ.out b V r q hb0 hsz)
   rw[t0g hsz]at PZ;clear PE HI hsz;generalize RQ t s=x at *;have c5:=XM.out.cs.c5;have c7:=XM.out.cs.c7;have XM0:=XM;refine' qzg
   refine(PZ.out b _ R0.out HT.out (by omega)).mono ?_
   rintro e w3 ⟨sa,sc,rfl,hl,hbel⟩;refine' qz8r;refine' qz42;refine' qz7k;have hV:=XM0.out.lt;have hx3:=X0.out.lt;have hm3:=XM.out.lt;clear hl hbel R0 HT XM0 c5 c7;refine' qz2b;refine' qz7m;refine' qz6y;refine' qz6z;have XE:=Lib.hid (Bk.Bk.new 217 w3 (cellsN En.zero sa sc));clear bel;refine' qz8a;refine' qz5f
 obtain⟨hq,hR⟩:=HI.out.2 hsz
 have PE:=Lib.hid (fun b V r q hb0=>PE.out b V r q hb0 ⟨fun k=>absurd k hsz,fun _=>⟨hq,d0b s 0,by decide,by decide⟩⟩)
 rw[hR]at XM
 have E5:=Lib.hid (show(hdJ t s).ae=bt s 0 by unfold hdJ;split<;>rfl)
 have E7:=Lib.hid (show(hdJ t s).plen=bt s 1 by unfold hdJ;split<;>rfl)
 have PK:=Lib.hid (fun V=>j0m (hdJ t s) V)
 clear PZ HI hq hR;have c5:=XM.out.cs.c5;have c7:=XM.out.cs.c7;rw[E5.out]at c5;rw[E7.out]at c7;have XM0:=XM
 rcases end_cases s (szJ t) (bt s 0) (bt s 1) 0 with⟨er,hE⟩|⟨y,hE⟩
 · have HY:=Lib.hid (u0e (t:=t) (d:=s) hE);rw[hE]at PE;clear hE;generalize hdJ t s=x at *;generalize bt s 0=y0 at *;generalize bt s 1=y1 at *;refine' qzg;refine' qz8t;refine' qz8r;refine' qz42;refine' qz7k;have hV:=XM0.out.lt;have hx3:=X0.out.lt;have hm3:=XM.out.lt;clear hl hbel R0 HT XM0 c5 c7;refine' qz2b;refine' qz7m;refine' qz6y;refine' qz6z;have XE:=Lib.hid (Bk.Bk.new 217 w3 (cellsN En.zero sa sc));clear bel;refine' qz8a;refine' qz5a
 have hbz:y.bytes.size=countN (bt s 0) (bt s 1):=by
  rw[hE.bytes,a0h _ _ _ hE.size];unfold restN;rw[Nat.add_sub_cancel_left];rfl
 have PW:=Lib.hid (fun V=>g0h (bt s 0) y.bytes (bt s 1) V hE.len hbz)
 have HQ:=Lib.hid (show y.known=true→kindB (hdJ t s)=true→outJ t s=({ hdJ t s with pfx:=wholeP (bt s 0) y.bytes (bt s 1),sl:=y.sl},true,0)from fun k q=>u0a hE.eq k q)
 have HN:=Lib.hid (fun k=>z1b (t:=t) (d:=s) (x:=y) hE.eq k)
 rw[hE.eq]at PE;clear hE hbz;obtain⟨yb,yl,kn⟩:=y;generalize kindB (hdJ t s)=kb at *;generalize hdJ t s=x at *;generalize bt s 0=y0 at *;generalize bt s 1=y1 at *;generalize wholeP y0 yb y1=wp at *;simp only[]at HQ HN PW PE;refine' qzg;refine' qz8t;refine' qz8r;refine' qz42;refine' qz7k;have hV:=XM0.out.lt;have hx3:=X0.out.lt;have hm3:=XM.out.lt;clear hl hbel R0 HT XM0 c5 c7;refine' qz7n;refine' qz33;have bel:=balloc (Below.refl w3.heap.size w3) (.cells (cellsN ⟨yb,yl,kn⟩ sa sc) 217);refine' qz6y;refine' qz6z;have XE:=Lib.hid (Bk.Bk.new 217 w3 (cellsN ⟨yb,yl,kn⟩ sa sc));clear bel;generalize w3.alloc (.cells (cellsN ⟨yb,yl,kn⟩ sa sc) 217)=V3 at *;generalize w3.heap.size=ge at *;have e2:=XE.out.cell 2 (.bool kn) rfl
 cases kn with
 | false=>
  have HY:=Lib.hid (HN.out (fun k=>by cases k.1))
  clear HN HQ;refine' qz1j
 | true=>
  go_wp2_with (first|(refine j0a (b:=g) (m:=x) rfl _ rfl rfl XM.out ?_)|(refine Or.p0a (v := .agg (M.cells x)) (by rfl) rfl (a0b (x := .tmp 6) rfl rfl XM.out) ?_))
  refine(PK.out _).mono ?_;rintro e w4 ⟨rfl,hb⟩;have X0:=Lib.hid (X0.out.below hb);have XM:=Lib.hid (XM.out.below hb);have XE:=Lib.hid (XE.out.below hb);refine' qz8;clear hb PK e2
  cases kb with
  | false=>
   have HY:=Lib.hid (HN.out (fun k=>by cases k.2))
   clear HN HQ;refine' qz1j
  | true=>
   have HY:=Lib.hid (HQ.out (by trivial) (by trivial))
   clear HN HQ;have c5:=XM.out.cs.c5;have c7:=XM.out.cs.c7;have e0:=XE.out.cell 0 (.string yb) rfl;rw[E5.out]at c5;rw[E7.out]at c7;refine' qzg;refine(PW.out _).mono ?_;rintro e w5 ⟨rfl,hb⟩;have X0:=Lib.hid (X0.out.below hb);have XM:=Lib.hid (XM.out.below hb);have XE:=Lib.hid (XE.out.below hb);refine' qz8;clear hb PW c5 c7 e0;have d:=XM.out.cs.c6;have fd:=XM.out.frozen 6
   go_upto_region 9 with fail
   have XM:=Lib.hid (XM.out.set (i:=6) (v := .string wp) (m':={ x with pfx:=wp}) rfl)
   have X0:=Lib.hid (X0.out.off (p:=⟨g,6,none⟩) (by show w.heap.size+1≠g;omega) (.string wp))
   have XE:=Lib.hid (XE.out.off (p:=⟨g,6,none⟩) (by show ge≠g;omega) (.string wp))
   have HB:=Lib.hid (HB.out.setCell (p:=⟨g,6,none⟩) (by show w.heap.size≤g;omega) (.string wp))
   have HL:=Lib.hid (e0e (u := .string wp) (p:=⟨g,6,none⟩) HL.out (by show g<_;omega))
   clear d fd;generalize w5.setCell ⟨g,6,none⟩ (.string wp)=V5 at *;have d:=XM.out.cs.c24;have fd:=XM.out.frozen 24;have e1:=XE.out.cell 1 (.slice sa yl.length sc) rfl
   go_upto_region 10 with fail
   have XM:=Lib.hid (XM.out.set (i:=24) (v := .slice sa yl.length sc) (m':={ x with pfx:=wp,sa:=sa,sl:=yl,sc:=sc}) rfl)
   have X0:=Lib.hid (X0.out.off (p:=⟨g,24,none⟩) (by show w.heap.size+1≠g;omega) (.slice sa yl.length sc))
   have HB:=Lib.hid (HB.out.setCell (p:=⟨g,24,none⟩) (by show w.heap.size≤g;omega) (.slice sa yl.length sc))
   have HL:=Lib.hid (e0e (u := .slice sa yl.length sc) (p:=⟨g,24,none⟩) HL.out (by show g<_;omega))
   clear d fd e1 XE;generalize V5.setCell ⟨g,24,none⟩ (.slice sa yl.length sc)=V6 at *
   go_wp2_with (first|(refine j0a (b:=g) (m:={ x with pfx:=wp,sa:=sa,sl:=yl,sc:=sc}) rfl _ rfl rfl XM.out ?_)|(refine e0a (b:=w.heap.size+1) (m:=M.zero) (m':={ x with pfx:=wp,sa:=sa,sl:=yl,sc:=sc}) rfl _ _ rfl rfl rfl X0.out ?_))
   exact bodyPost_ret (v := .tuple #[.agg (M.cells { x with pfx:=wp,sa:=sa,sl:=yl,sc:=sc}),.bool true,.int .i64 0]) (ret3 rfl _ _ (w.heap.size+1) { x with pfx:=wp,sa:=sa,sl:=yl,sc:=sc} rfl (X0.out.put (m':={ x with pfx:=wp,sa:=sa,sl:=yl,sc:=sc})) (.bool true) rfl (.int .i64 0) rfl) rfl (AnsB.subs (r:={ x with pfx:=wp}) HY.out (f0c HL.out (by omega) _) (by omega) (Box.below_setRow HB.out (by omega) _))
theorem g0y (a:Int)(s:ByteArray)(w:World)(hs:s.size≤100000)(ht:Tab w):Calls Tryz.prog 342 #[.agg (cellsT (a,(s,8)))] w (AnsU (outK s) w):=by
 refine' qzd2
 have PF:=Lib.hid (fun b V r=>show Calls Tryz.prog 359 #[.pointer (some ⟨b,0,none⟩)] V (Took (.agg (R8 s).cells) s (pU s) b V)from b0h s b hm V r)
 have HI:=Lib.hid (isU s)
 have PE:=Lib.hid (fun b V r q hb0 (hq:(s.size<10→(pU s).2=true)∧(¬s.size<10→pU s=(10,false)∧0≤bt s 0∧0≤bt s 3∧bt s 3≤255))=>g0l s 10 b (pU s) (bt s 0) (bt s 2) (bt s 3) hs hq V r q hb0)
 have PZ:=Lib.hid (fun b V r q hb0 (h:s.size<10)=>g0l s 10 b (pU s) (R8 s).ae (R8 s).plen (R8 s).om hs ⟨fun _=>HI.out.1 h,fun k=>absurd h k⟩ V r q hb0)
 have PN:=Lib.hid (fun V=>o0c s V hm)
 have h0:=ht.pos;refine' qzi;change Code.wp _ _ _ _ ((w.alloc (.cells (cellsT (a,(s,8))) 110)).alloc (.cells Up.zero.cells 223));have hz:=b0a w (.cells (cellsT (a,(s,8))) 110);have X0:=Bk.Bk.new 223 (w.alloc (.cells (cellsT (a,(s,8))) 110)) Up.zero.cells;rw[hz]at X0;have X0:=Lib.hid X0;have T0:=Lib.hid ((Bk.Bk.new 110 w (cellsT (a,(s,8)))).old (.cells Up.zero.cells 223));have HB:=Lib.hid (balloc (balloc (Below.refl _ w) (.cells (cellsT (a,(s,8))) 110)) (.cells Up.zero.cells 223));have HT:=Lib.hid (ht.below HB.out);clear hz ht;generalize (w.alloc (.cells (cellsT (a,(s,8))) 110)).alloc (.cells Up.zero.cells 223)=W at *;have c0:=T0.out.cell 0 (.int .i64 8) rfl;have c2:=T0.out.cell 2 (.string s) rfl;refine' qzg;refine(PN.out _).mono ?_;refine' qz75;have X0:=Lib.hid (X0.out.below hb);have HT:=Lib.hid (HT.out.below hb);refine' qz6;clear hb c0 c2 PN T0;refine' qzco;change Code.wp _ _ _ _ (w1.alloc (.cells (cu s (0,false)) 215));have bel:=balloc (Below.refl w1.heap.size w1) (.cells (cu s (0,false)) 215);have hlt:=X0.out.lt;have X0:=Lib.hid (X0.out.below bel);refine' qz5s;have R0:=Lib.hid (Bk.Bk.new 215 w1 (cu s (0,false)));clear bel;generalize w1.alloc (.cells (cu s (0,false)) 215)=W1 at *;generalize w1.heap.size=b at *;refine' qzg;refine(PF.out b _ R0.out).mono ?_;rintro e w2 ⟨rfl,hr,hbel⟩;refine' qzd1;have R0:=Lib.hid hr;have hW1:=HB.out.size;refine' qzcc
 have HT:=Lib.hid (hbel.tab (by omega) (by omega) HT.out)
 clear hr hbel PF
 go_upto_region 5 with(refine z0b (b:=w2.heap.size) (m:=Up.zero) (m':=R8 s) rfl _ _ rfl rfl rfl (Bk.Bk.new 223 w2 Up.zero.cells) ?_)
 change Code.wp _ _ _ _ ((w2.alloc (.cells Up.zero.cells 223)).setRow w2.heap.size (R8 s).cells);refine' qz33;have bel:=balloc (Below.refl w2.heap.size w2) (.cells (R8 s).cells 223);have hlt2:=R0.out.lt;have X0:=Lib.hid (X0.out.below bel);refine' qzb;refine' qz5s;have XM:=Lib.hid (Bk.Bk.new 223 w2 (R8 s).cells);clear bel;generalize w2.alloc (.cells (R8 s).cells 223)=V at *;generalize w2.heap.size=g at *;by_cases hsz:s.size<10
 · have HY:=Lib.hid (e0v (d:=s) (t0g hsz))
   have PZ:=Lib.hid (fun b V r q hb0=>PZ.out b V r q hb0 hsz)
   rw[t0g hsz]at PZ;clear PE HI hsz;generalize R8 s=x at *;have c0:=XM.out.cell 0 (.int .i64 x.ae) rfl;have c2:=XM.out.cell 2 (.int .i64 x.plen) rfl;have c3:=XM.out.cell 3 (.int .i64 x.om) rfl;have XM0:=XM;refine' qzg
   refine(PZ.out b _ R0.out HT.out (by omega)).mono ?_
   rintro e w3 ⟨sa,sc,rfl,hl,hbel⟩;refine' qzd1
   have XM:=Lib.hid (hbel.bk (by omega) XM.out)
   refine' qz42;refine' qz7k;have hV:=XM0.out.lt;have hx3:=X0.out.lt;have hm3:=XM.out.lt;clear hl hbel R0 HT XM0 c0 c2 c3;refine' qz2b;refine' qz7m;refine' qz6y;refine' qz6z;have XE:=Lib.hid (Bk.Bk.new 217 w3 (cellsN En.zero sa sc));clear bel;refine' qzbo
   exact bodyPost_ret (v := .tuple #[.agg Up.zero.cells,.bool false,.int .i64 2]) (t0a rfl _ _ (w.heap.size+1) _ rfl (loadVarK shU (X0.out.put (Up.cells Up.zero)) rfl) (.bool false) rfl (.int .i64 2) rfl) rfl (AnsU.no HY.out (Box.below_setRow HB.out (by omega) _))
 obtain⟨hq,hR⟩:=HI.out.2 hsz
 have PE:=Lib.hid (fun b V r q hb0=>PE.out b V r q hb0 ⟨fun k=>absurd k hsz,fun _=>⟨hq,d0b s 0,d0b s 3,by have:=o0b s 3;omega⟩⟩)
 rw[hR]at XM
 have E0:=Lib.hid (show(hdK s).ae=bt s 0 from rfl)
 have E2:=Lib.hid (show(hdK s).plen=bt s 2 from rfl)
 have E3:=Lib.hid (show(hdK s).om=bt s 3 from rfl)
 clear PZ HI hq hR;have c0:=XM.out.cell 0 (.int .i64 (hdK s).ae) rfl;have c2:=XM.out.cell 2 (.int .i64 (hdK s).plen) rfl;have c3:=XM.out.cell 3 (.int .i64 (hdK s).om) rfl;rw[E0.out]at c0;rw[E2.out]at c2;rw[E3.out]at c3;have XM0:=XM
 rcases end_cases s 10 (bt s 0) (bt s 2) (bt s 3)with⟨er,hE⟩|⟨y,hE⟩
 · have HY:=Lib.hid (e0v (d:=s) hE);rw[hE]at PE;clear hE;generalize hdK s=x at *;generalize bt s 0=y0 at *;generalize bt s 2=y2 at *;generalize bt s 3=y3 at *;refine' qzg;refine' qz8t;refine' qzd1
   have XM:=Lib.hid (hbel.bk (by omega) XM.out)
   refine' qz42;refine' qz7k;have hV:=XM0.out.lt;have hx3:=X0.out.lt;have hm3:=XM.out.lt;clear hl hbel R0 HT XM0 c0 c2 c3;refine' qz2b;refine' qz7m;refine' qz6y;refine' qz6z;have XE:=Lib.hid (Bk.Bk.new 217 w3 (cellsN En.zero sa sc));clear bel;refine' qzbo
   exact bodyPost_ret (v := .tuple #[.agg Up.zero.cells,.bool false,.int .i64 er]) (t0a rfl _ _ (w.heap.size+1) _ rfl (loadVarK shU (X0.out.put (Up.cells Up.zero)) rfl) (.bool false) rfl (.int .i64 er) rfl) rfl (AnsU.no HY.out (Box.below_setRow HB.out (by omega) _))
 have HY:=Lib.hid (m0q hE.eq);rw[hE.eq]at PE
 have HH:=Lib.hid (show(hdK s).hav=0 from rfl)
 have HS:=Lib.hid (show(hdK s).bytes=ByteArray.empty∧(hdK s).sa=none∧(hdK s).sl = []∧(hdK s).sc=0 from⟨rfl,rfl,rfl,rfl⟩)
 clear hE;obtain⟨yb,yl,kn⟩:=y;generalize hdK s=x at *;generalize bt s 0=y0 at *;generalize bt s 2=y2 at *;generalize bt s 3=y3 at *;simp only[]at HY PE;refine' qzg;refine' qz8t;refine' qzd1
 have XM:=Lib.hid (hbel.bk (by omega) XM.out)
 refine' qz42;refine' qz7k;have hV:=XM0.out.lt;have hx3:=X0.out.lt;have hm3:=XM.out.lt;clear hl hbel R0 HT XM0 c0 c2 c3;refine' qz7n;refine' qz33;have bel:=balloc (Below.refl w3.heap.size w3) (.cells (cellsN ⟨yb,yl,kn⟩ sa sc) 217);refine' qz6y;refine' qz6z;have XE:=Lib.hid (Bk.Bk.new 217 w3 (cellsN ⟨yb,yl,kn⟩ sa sc));clear bel;generalize w3.alloc (.cells (cellsN ⟨yb,yl,kn⟩ sa sc) 217)=V3 at *;generalize w3.heap.size=ge at *;refine' qzcq
 refine wp_region_held_drew (S:=fun W=>W.cell? ⟨ge,0,none⟩=some (.string yb)∧W.cell? ⟨ge,1,none⟩=some (.slice sa yl.length sc)) (by kernel_rfl) ⟨XE.out.cell 0 _ rfl,XE.out.cell 1 _ rfl⟩ (fun hS=>?_)
 have X0:=Lib.hid (show Bk 223 V3.drew (w.heap.size+1) Up.zero.cells from X0.out)
 have XM:=Lib.hid (show Bk 223 V3.drew g x.cells from XM.out)
 have XE:=Lib.hid (show Bk 217 V3.drew ge (cellsN ⟨yb,yl,kn⟩ sa sc)from XE.out)
 have HL:=Lib.hid (show Sx.Lst _ V3.drew (.slice sa yl.length sc) yl from HL.out)
 have HB:=Lib.hid HB.out.drew;generalize V3.drew=X8 at *;refine' qz1g;refine H.tk (i:=1) (v := .string yb) ?h1 hS ?_
 case h1=>exact(fun w hw=>by have c:=hw.1;go_simp)
 refine' qz0;refine' qz2n;refine H.tk (i:=3) (v := .slice sa yl.length sc) ?h3 hS ?_
 case h3=>exact(fun w hw=>by have c:=hw.2;go_simp)
 refine' qz20;refine' qz0
 refine wpAnyH_ready (rs:=[5]) (by kernel_rfl) (by simp) ?_
 refine AllReadyH.cons rfl (fun K hK=>?_) AllReadyH.nil
 have cx:=XM.out.cell 8 _ rfl;have fx:=XM.out.frozen 8;go_simp
 have XM:=Lib.hid (XM.out.set (i:=8) (v := .string yb) (cs':=Up.cells { x with bytes:=yb}) rfl)
 have X0:=Lib.hid (X0.out.off (p:=⟨g,8,none⟩) (by show w.heap.size+1≠g;omega) (.string yb))
 have XE:=Lib.hid (XE.out.off (p:=⟨g,8,none⟩) (by show ge≠g;omega) (.string yb))
 have HB:=Lib.hid (HB.out.setCell (p:=⟨g,8,none⟩) (by show w.heap.size≤g;omega) (.string yb))
 have HL:=Lib.hid (e0e (u := .string yb) (p:=⟨g,8,none⟩) HL.out (by show g<_;omega))
 refine hK.out _ _ ⟨XE.out.cell 0 _ rfl,XE.out.cell 1 _ rfl⟩ (fun hS'=>?_)
 clear hK K hS cx fx;have hS:=hS';clear hS';generalize World.setCell _ ⟨g,8,none⟩ _=Y5 at *;refine' qz1y;refine' qz1s
 refine AllReadyH.cons rfl (fun K hK=>?_) AllReadyH.nil
 have cx:=XM.out.cell 9 _ rfl;have fx:=XM.out.frozen 9;go_simp
 have XM:=Lib.hid (XM.out.set (i:=9) (v := .slice sa yl.length sc) (cs':=Up.cells { x with bytes:=yb,sa:=sa,sl:=yl,sc:=sc}) rfl)
 have X0:=Lib.hid (X0.out.off (p:=⟨g,9,none⟩) (by show w.heap.size+1≠g;omega) (.slice sa yl.length sc))
 have XE:=Lib.hid (XE.out.off (p:=⟨g,9,none⟩) (by show ge≠g;omega) (.slice sa yl.length sc))
 have HB:=Lib.hid (HB.out.setCell (p:=⟨g,9,none⟩) (by show w.heap.size≤g;omega) (.slice sa yl.length sc))
 have HL:=Lib.hid (e0e (u := .slice sa yl.length sc) (p:=⟨g,9,none⟩) HL.out (by show g<_;omega))
 refine hK.out _ _ ⟨XE.out.cell 0 _ rfl,XE.out.cell 1 _ rfl⟩ (fun hS'=>?_)
 clear hK K hS cx fx;have hS:=hS';clear hS';generalize World.setCell _ ⟨g,9,none⟩ _=Y7 at *;refine' qz1;have e2:=XE.out.cell 2 (.bool kn) rfl
 cases kn with
 | false=>
  have HY:=Lib.hid (show outK s=({ ({ x with bytes:=yb}:Up)with sl:=yl},true,0) by rw[HY.out];obtain⟨_,_,_,_,_,_,_,xh,_,_,_,_⟩:=x;obtain rfl:xh=0:=HH.out;rfl)
  go_wp2_with (first|(refine u0c (b:=g) (m:={ x with bytes:=yb,sa:=sa,sl:=yl,sc:=sc}) rfl _ rfl rfl XM.out ?_)|(refine z0b (b:=w.heap.size+1) (m:=Up.zero) (m':={ x with bytes:=yb,sa:=sa,sl:=yl,sc:=sc}) rfl _ _ rfl rfl rfl X0.out ?_))
  exact bodyPost_ret (v := .tuple #[.agg (Up.cells { x with bytes:=yb,sa:=sa,sl:=yl,sc:=sc}),.bool true,.int .i64 0]) (t0a rfl _ _ (w.heap.size+1) _ rfl (loadVarK shU (X0.out.put (Up.cells { x with bytes:=yb,sa:=sa,sl:=yl,sc:=sc})) rfl) (.bool true) rfl (.int .i64 0) rfl) rfl (AnsU.yes (r:={ x with bytes:=yb}) HY.out (f0c HL.out (by omega) _) (by omega) (Box.below_setRow HB.out (by omega) _))
 | true=>
  have HY:=Lib.hid (show outK s=({ ({ x with hav:=1,bytes:=yb}:Up)with sl:=yl},true,0) by rw[HY.out];rfl)
  have d:=XM.out.cell 7 _ rfl;have fd:=XM.out.frozen 7
  go_upto_region 11 with fail
  have XM:=Lib.hid (XM.out.set (i:=7) (v := .int .i64 1) (cs':=Up.cells { x with hav:=1,bytes:=yb,sa:=sa,sl:=yl,sc:=sc}) rfl)
  have X0:=Lib.hid (X0.out.off (p:=⟨g,7,none⟩) (by show w.heap.size+1≠g;omega) (.int .i64 1))
  have HB:=Lib.hid (HB.out.setCell (p:=⟨g,7,none⟩) (by show w.heap.size≤g;omega) (.int .i64 1))
  have HL:=Lib.hid (e0e (u := .int .i64 1) (p:=⟨g,7,none⟩) HL.out (by show g<_;omega))
  clear d fd e2 XE;generalize World.setCell _ ⟨g,7,none⟩ (.int .i64 1)=Y9 at *
  go_wp2_with (first|(refine u0c (b:=g) (m:={ x with hav:=1,bytes:=yb,sa:=sa,sl:=yl,sc:=sc}) rfl _ rfl rfl XM.out ?_)|(refine z0b (b:=w.heap.size+1) (m:=Up.zero) (m':={ x with hav:=1,bytes:=yb,sa:=sa,sl:=yl,sc:=sc}) rfl _ _ rfl rfl rfl X0.out ?_))
  exact bodyPost_ret (v := .tuple #[.agg (Up.cells { x with hav:=1,bytes:=yb,sa:=sa,sl:=yl,sc:=sc}),.bool true,.int .i64 0]) (t0a rfl _ _ (w.heap.size+1) _ rfl (loadVarK shU (X0.out.put (Up.cells { x with hav:=1,bytes:=yb,sa:=sa,sl:=yl,sc:=sc})) rfl) (.bool true) rfl (.int .i64 0) rfl) rfl (AnsU.yes (r:={ x with hav:=1,bytes:=yb}) HY.out (f0c HL.out (by omega) _) (by omega) (Box.below_setRow HB.out (by omega) _))
end J6
end Go.Proofs.YtllhobicfclheaaGreatDoor
