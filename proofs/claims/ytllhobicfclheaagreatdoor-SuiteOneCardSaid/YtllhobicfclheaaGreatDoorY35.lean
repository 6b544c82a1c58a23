/-
  A part of a proof. No conditions.
-/
import Derived.Test.YtllhobicfclheaaGreatDoorY33
namespace Go.Proofs.YtllhobicfclheaaGreatDoor
open Go.ChangeShapes Go.WideShapes Go.ChangeAt Go.RowKit
set_option linter.unusedVariables false
set_option maxRecDepth 100000
set_option maxHeartbeats 51200000
namespace G2
open Ms Box S1 Lk G1 An Tc
open Oct (fitsB)
open Hs (a0b)
open Go.Proofs.YtllhobicfclheaaGreatDoor.Or (p0a)
theorem g0a {a b:Bool}(h:a=b):Ending.returned (.bool a) = .returned (.bool b):=by rw[h]
theorem t0b {s t:ByteArray}{b c:Bool}(h:s=t)(k:b=c):Ending.returned (.tuple #[.string s,.bool b]) = .returned (.tuple #[.string t,.bool c]):=by rw[h,k]
theorem v0p (n:Int)(w:World):Calls Tryz.prog 287 #[.int .i64 n] w fun e w'=>e = .returned (.bool (decide (0≤n∧n≤3)))∧w=w':=by
 refine' qz94;rw[decide_eq_true ⟨h0,h1⟩];refine' qz67
 exact⟨g0a (decide_eq_true (by omega)),rfl⟩
theorem h0o (ae:Int)(a:ByteArray)(w:World)(ht:Tab w):Calls Tryz.prog 242 #[.int .i64 ae,.string a] w fun e w'=>e = .returned (.tuple #[.string (shT ae a),.bool (shB ae a)])∧w=w':=by
 by_cases h3:ae=3
 · subst h3
   have P:=Lib.hid (fun V=>r0k a V)
   have HZ:=Lib.hid (sh_3 a);clear ht;refine' qz16;refine' qz47;refine' qz66
 have P:=Lib.hid (fun V=>v0p ae V)
 have HS:=Lib.hid (sh_n h3 a);by_cases hi:0≤ae∧ae≤3;rotate_left
 · have HZ:=Lib.hid (show shB ae a=false∧shT ae a=⟨#[]⟩from by
    have e:shB ae a=false:=by rw[HS.out.1,decide_eq_false hi];rfl
    exact⟨e,by rw[HS.out.2,e];rfl⟩)
   rw[decide_eq_false hi]at P;clear ht hi HS;refine' qz16;refine' qz47;refine' qz66
 rw[decide_eq_true hi]at P;rw[decide_eq_true hi]at HS;obtain⟨s0,s1,s2,s3⟩:=ht
 rcases(show ae=0∨ae=1∨ae=2 by omega)with rfl|rfl|rfl
 · by_cases hz:a.size=0
   · have hq:(a.size:Int)=0:=by omega
     have HZ:=Lib.hid (show shB 0 a=true∧shT 0 a=a from by
      have e:shB 0 a=true:=by rw[HS.out.1,decide_eq_true (show a.size=sizeA 0 from hz)];rfl
      exact⟨e,by rw[HS.out.2,e];rfl⟩)
     clear hz hi h3 HS;refine' qz16;refine' qz47;refine' qz66
   · have hq:((a.size:Int)==0)=false:=by simpa using(show ¬(a.size:Int)=0 by omega)
     have hq2:((a.size:Int) != 0)=true:=by rw[bne,hq];rfl
     have HZ:=Lib.hid (show shB 0 a=false∧shT 0 a=⟨#[]⟩from by
      have e:shB 0 a=false:=by rw[HS.out.1,decide_eq_false (show ¬a.size=sizeA 0 from hz)];rfl
      exact⟨e,by rw[HS.out.2,e];rfl⟩)
     clear hz hi h3 HS;refine' qz16;refine' qz47;refine' qz66
 · by_cases hz:a.size=4
   · have hq:(a.size:Int)=4:=by omega
     have HZ:=Lib.hid (show shB 1 a=true∧shT 1 a=a from by
      have e:shB 1 a=true:=by rw[HS.out.1,decide_eq_true (show a.size=sizeA 1 from hz)];rfl
      exact⟨e,by rw[HS.out.2,e];rfl⟩)
     clear hz hi h3 HS;refine' qz16;refine' qz47;refine' qz66
   · have hq:((a.size:Int)==4)=false:=by simpa using(show ¬(a.size:Int)=4 by omega)
     have hq2:((a.size:Int) != 4)=true:=by rw[bne,hq];rfl
     have HZ:=Lib.hid (show shB 1 a=false∧shT 1 a=⟨#[]⟩from by
      have e:shB 1 a=false:=by rw[HS.out.1,decide_eq_false (show ¬a.size=sizeA 1 from hz)];rfl
      exact⟨e,by rw[HS.out.2,e];rfl⟩)
     clear hz hi h3 HS;refine' qz16;refine' qz47;refine' qz66
 · by_cases hz:a.size=16
   · have hq:(a.size:Int)=16:=by omega
     have HZ:=Lib.hid (show shB 2 a=true∧shT 2 a=a from by
      have e:shB 2 a=true:=by rw[HS.out.1,decide_eq_true (show a.size=sizeA 2 from hz)];rfl
      exact⟨e,by rw[HS.out.2,e];rfl⟩)
     clear hz hi h3 HS;refine' qz16;refine' qz47;refine' qz66
   · have hq:((a.size:Int)==16)=false:=by simpa using(show ¬(a.size:Int)=16 by omega)
     have hq2:((a.size:Int) != 16)=true:=by rw[bne,hq];rfl
     have HZ:=Lib.hid (show shB 2 a=false∧shT 2 a=⟨#[]⟩from by
      have e:shB 2 a=false:=by rw[HS.out.1,decide_eq_false (show ¬a.size=sizeA 2 from hz)];rfl
      exact⟨e,by rw[HS.out.2,e];rfl⟩)
     clear hz hi h3 HS;refine' qz16;refine' qz47;refine' qz66
theorem n0g (ae:Int)(s:ByteArray)(w:World):Calls Tryz.prog 340 #[.int .i64 ae,.string s] w fun e w'=>e = .returned (.string (lgT ae s))∧w=w':=by
 by_cases h3:ae=3
 · subst h3
   have P:=Lib.hid (fun V=>a0g s V)
   have HZ:=Lib.hid (show lgT 3 s=lgA s from rfl)
   refine' qz16;refine' qz47;refine' qzj
   exact⟨by rw[HZ.out];rfl,rfl⟩
 have HZ:=Lib.hid (show lgT ae s=s by unfold lgT;rw[if_neg h3])
 have hn:(ae==3)=false:=by simpa using h3
 have hn2:(ae != 3)=true:=by rw[bne,hn];rfl
 refine' qz67
 exact⟨by rw[HZ.out];rfl,rfl⟩
theorem z0j (m:M)(w:World):Calls Tryz.prog 180 #[.agg m.cells] w fun e w'=>e = .returned (.bool (nums m))∧Below w.heap.size w w':=by
 refine' qz7f
 have HK:=Lib.hid (show nums m=(fitsB m.nonce 2&&(fitsB m.interval 2&&(fitsB m.seq 2&&fitsB m.cost 2)))from rfl)
 have P1:=Lib.hid (fun V=>Oct.k0b m.nonce 2 V)
 have P2:=Lib.hid (fun V=>Oct.k0b m.interval 2 V)
 have P3:=Lib.hid (fun V=>Oct.k0b m.seq 2 V)
 have P4:=Lib.hid (fun V=>Oct.k0b m.cost 2 V)
 generalize nums m=y at *;generalize fitsB m.nonce 2=x1 at *;generalize fitsB m.interval 2=x2 at *;generalize fitsB m.seq 2=x3 at *;generalize fitsB m.cost 2=x4 at *;refine' qz2f;have c17:=b0.cs.c17;have c14:=b0.cs.c14;have c12:=b0.cs.c12;have c18:=b0.cs.c18;clear b0;cases x1
 · refine' qz2h;refine' qz1r
 cases x2
 · refine' qz2h;refine' qz54;refine' qz1r
 cases x3
 · refine' qz2h;refine' qz54;refine' qz7u;refine' qz1r
 refine' qz2h;refine' qz54;refine' qz7u;refine' qz8x;refine' qz2g;refine' qz1r
theorem j0m (m:M)(w:World)(ht:Tab w):Calls Tryz.prog 181 #[.agg m.cells] w fun e w'=>e = .returned (.bool (kindB m))∧Below w.heap.size w w':=by
 refine' qz7f
 have P:=Lib.hid (fun(h:Tab w)=>h0o m.ae m.addr _ (h.below HB.out))
 have P:=Lib.hid (P.out ht);clear ht;by_cases h7:m.kind=7
 · have HK:=Lib.hid (show kindB m=true by unfold kindB;rw[if_pos (.inl h7)])
   refine' qz2f;refine' qz5g;refine' qzao;clear b0;rw[h7]at c0;refine' qz1r
 by_cases h8:m.kind=8
 · have HK:=Lib.hid (show kindB m=true by unfold kindB;rw[if_pos (.inr h8)])
   refine' qz2f;refine' qz5g;refine' qzao;clear b0;rw[h8]at c0;refine' qz1r
 by_cases h9:m.kind=9
 · by_cases g0:0≤m.flags;rotate_left
   · have HK:=Lib.hid (show kindB m=false by unfold kindB;rw[if_neg (by omega),if_pos h9,decide_eq_false (fun h=>g0 h.1)])
     refine' qz2f;refine' qz5g;refine' qzao;clear b0;rw[h9]at c0;clear h7 h8 h9;refine' qz1r
   by_cases g1:m.flags≤1;rotate_left
   · have HK:=Lib.hid (show kindB m=false by unfold kindB;rw[if_neg (by omega),if_pos h9,decide_eq_false (fun h=>g1 h.2)])
     refine' qz2f;refine' qz5g;refine' qzao;clear b0;rw[h9]at c0;clear h7 h8 h9;refine' qz1r
   have HK:=Lib.hid (show kindB m=true by unfold kindB;rw[if_neg (by omega),if_pos h9,decide_eq_true ⟨g0,g1⟩])
   refine' qz2f;refine' qz5g;refine' qzao;clear b0;rw[h9]at c0;clear h7 h8 h9;refine' qz1r
 by_cases h10:m.kind=10
 · have HK:=Lib.hid (show kindB m=shB m.ae m.addr by unfold kindB;rw[if_neg (by omega),if_neg h9,if_pos h10])
   refine' qz2f;refine' qz5g;refine' qzao;clear b0;rw[h10]at c0;clear h7 h8 h9 h10;refine' qzg;refine P.out.mono ?_;refine' qz2g;refine' qz1r
 have HK:=Lib.hid (show kindB m=false by unfold kindB;rw[if_neg (by omega),if_neg h9,if_neg h10])
 have e7:(m.kind==7)=false:=by simpa using h7
 have e8:(m.kind==8)=false:=by simpa using h8
 have e9:(m.kind==9)=false:=by simpa using h9
 have e10:(m.kind==10)=false:=by simpa using h10
 refine' qz2f;refine' qz5g;refine' qzao;clear b0;refine' qz1r
theorem i0f (m:M)(w:World)(hm:m.In w):Calls Tryz.prog 77 #[.agg m.cells] w fun e w'=>e = .returned (.bool (bare m))∧Below w.heap.size w w':=Bare.z0c m w hm
theorem l0a (m:M)(w:World)(hm:m.In w)(lb:∀ x∈m.sl,x.1.size≤1099511627776)(ht:Tab w):Calls Tryz.prog 107 #[.agg m.cells] w fun e w'=>e = .returned (.bool (okF m))∧Below w.heap.size w w':=by
 refine' qz41
 have HK:=Lib.hid (show okF m=(bare m&&(okS m.sl&&(nums m&&kindB m)))from rfl)
 have P1:=Lib.hid (fun V (h:m.In V)=>i0f m V h)
 have P2:=Lib.hid (fun V (h:m.In V)=>S2.l0a m.sa m.sc m.sl V h.s h.sl lb)
 have P3:=Lib.hid (fun V=>z0j m V)
 have P4:=Lib.hid (fun V (h:Tab V)=>j0m m V h)
 clear lb hm ht;generalize okF m=y at *;generalize bare m=x1 at *;generalize okS m.sl=x2 at *;generalize nums m=x3 at *;generalize kindB m=x4 at *;refine' qz2f;refine' qz2;cases x1
 · refine' qzf;refine' qz22;refine' qz92;refine' qz6q
 cases x2
 · refine' qzf;refine' qz22;refine' qz92;refine' qzcz;refine' qz22;refine' qz92;refine' qz6q
 cases x3
 · refine' qzf;refine' qz22;refine' qz92;refine' qzcz;refine' qz22;refine' qz92;refine(P3.out _).mono ?_;refine' qz22;refine' qz92;refine' qz6q
 refine' qzf;refine' qz22;refine' qz92;refine' qzcz;refine' qz22;refine' qz92;refine(P3.out _).mono ?_;refine' qz22;refine' qz92;refine(P4.out _ HM.out).mono ?_;refine' qz22;clear hb c24;refine' qz2;refine' qz3q
end G2
namespace Ow
open Ms Box
open Oct (cellsL l0w a0e)
open Bk (Bk)
theorem x0f {w:World}{B:Nat}{e T:TypeId}{size:Nat}{v:Value}{n:Nat}{xs:List Value}{b:Nat}{cs:Array Value}(hown:w.ownsRow B e size v n xs)(hb:Bk T w b cs)(hTe:T≠e):v.ownBlock≠some b:=by
 refine' qzdi
theorem o0e {w:World}{B b i:Nat}{e T:TypeId}{size:Nat}{v u:Value}{n:Nat}{xs:List Value}{cs:Array Value}(hown:w.ownsRow B e size v n xs)(hb:Bk T w b cs)(hTe:T≠e):(w.setCell ⟨b,i,none⟩ u).ownsRow B e size v n xs:=
  hown.kept (row:=some b) ⟨rfl,rfl,rfl,by simp[World.setCell],fun k _ hk=>Below.heap_setCell _ _ _ _ (fun e=>hk (by simp[e]))⟩ (Or.inr (x0f hown hb hTe))
theorem b0d {w:World}{B:Nat}{e:TypeId}{size:Nat}{v:Value}{n:Nat}{xs:List Value}(hown:w.ownsRow B e size v n xs):∃ a c,v = .slice a n c:=by
 rcases hown.2 with⟨hv,h0⟩|⟨g,cap,cur,hv,_⟩
 · exact⟨none,0,by rw[hv,h0]⟩
 · exact⟨_,_,hv⟩
theorem x0c (a b:List UInt8):cellsL (a++b)=cellsL a++cellsL b:=by simp[cellsL]
theorem n0i {B:Nat}(w:World)(l:List UInt8){ao:Option Addr}{cap:Nat}(h:w.ownsRow B 5 1 (.slice ao l.length cap) l.length (cellsL l)) :
    (convert 96 9 (.slice ao l.length cap)).run Tryz.prog w = .ok (.string ⟨l.toArray⟩) w:=by
 refine' qzda
def Own (B:Nat)(w:World)(v:Value)(bs:List UInt8):Prop:=w.ownsRow B 5 1 v bs.length (cellsL bs)
theorem Own.nil (B:Nat)(w:World):Own B w (.slice none 0 0) []:=World.ownsRow_nil w B _ 1
theorem Own.below {B:Nat}{w w':World}{v:Value}{bs:List UInt8}(h:Own B w v bs)(hb:Below w.heap.size w w'):Own B w' v bs:=by
 refine' qz1h
theorem Own.conv {B:Nat}{w:World}{v:Value}{bs:List UInt8}(h:Own B w v bs):(convert 96 9 v).run Tryz.prog w = .ok (.string ⟨bs.toArray⟩) w:=by
 obtain⟨ao,cap,rfl⟩:=b0d h;exact n0i w bs h
theorem n0h {ops:Array Oper}{rest:List Oper}{o:Oper}{a:Act}{w:World}{Q:Exit→Act→World→Prop}(hgd:o.guard=none)(s x:Operand)
    (ho:o.op = .call { callee := .builtin .append,args:=#[s,x],argTypes:=#[96,9]}) (B:Nat) (v:Value) (bs:List UInt8) (t:ByteArray)
    (hs:a.eval s=v) (hown:Own B w v bs) (hx:a.eval x = .string t) (hl:bs.length+t.size≤1000000) (hB:B≤w.heap.size)
    (h:∀ v' w',Own B w' v' (bs++t.data.toList)→w.grownBy w' v.ownBlock→Below B w w'→wpList Tryz.prog ops Q rest (a.put o.dst v') w'):wpList Tryz.prog ops Q (o::rest) a w:=by
 refine' qz4m;refine' qz5c;unfold Own;rw[x0c,List.length_append];exact h2
def Oth (b:Nat)(w w':World):Prop:=∀ (T:TypeId) k cs,T≠5→k≠b→Bk T w k cs→Bk T w' k cs
theorem Oth.refl (b:Nat)(w:World):Oth b w w:=fun _ _ _ _ _ h=>h
theorem Oth.trans {b:Nat}{w w' w'':World}(h:Oth b w w')(h':Oth b w' w''):Oth b w w'':=fun T k cs h1 h2 h3=>h' T k cs h1 h2 (h T k cs h1 h2 h3)
theorem Oth.below {b:Nat}{w w':World}(h:Below w.heap.size w w'):Oth b w w':=fun _ _ _ _ _ h3=>h3.below h
theorem Oth.set {b i:Nat}{w:World}{v:Value}:Oth b w (w.setCell ⟨b,i,none⟩ v):=fun _ _ _ _ h2 h3=>h3.off (p:=⟨b,i,none⟩) h2 v
theorem Oth.grown {B b:Nat}{w w':World}{v:Value}{bs:List UInt8}(hown:Own B w v bs)(hg:w.grownBy w' v.ownBlock):Oth b w w':=fun _ _ _ h1 _ h3=>(hg.block _ h3.lt (fun e=>x0f hown h3 h1 e.symm)).trans h3
theorem neM:(29:TypeId)≠5:=by decide
theorem Oth.bx {b g:Nat}{w w':World}{m:M}(h:Oth b w w')(hn:g≠b)(hb:Bx w g m):Bx w' g m:=h 29 g m.cells neM hn hb
end Ow
namespace G3
open Ms Box S1 Nu G1 G2 An Tc Ow
open Oct (fitsB)
open F1 (putB putO)
open Hs (a0b)
open Go.Proofs.YtllhobicfclheaaGreatDoor.Or (p0a)
open Bk (Bk)
def Wri (B b:Nat)(bs:List UInt8)(w:World):Prop:=B≤b∧∃ v,Bk 254 w b #[v]∧Own B w v bs
theorem neW:(254:TypeId)≠5:=by decide
theorem Wri.below {B b:Nat}{l:List UInt8}{w w':World}(h:Wri B b l w)(hb:Below w.heap.size w w'):Wri B b l w':=by
 refine' qzbj
theorem Wri.lt {B b:Nat}{l:List UInt8}{w:World}(h:Wri B b l w):b<w.heap.size:=by
 obtain⟨h1,v,h2,h3⟩:=h;exact h2.lt
def Laid (B b:Nat)(bs:List UInt8)(w:World)(e:Ending)(w':World):Prop:=e = .returned (.tuple #[])∧Wri B b bs w'∧Below B w w'∧Oth b w w'
theorem x0b (B b:Nat)(bs:List UInt8)(s:ByteArray)(w:World)(h:Wri B b bs w)(hB:B≤w.heap.size)(hl:bs.length≤800000)(hs:s.size≤100000) :
    Calls Tryz.prog 369 #[.pointer (some ⟨b,0,none⟩),.string s] w (Laid B b (bs++s.data.toList) w):=by
 obtain⟨hBb,v,hb,hown⟩:=h;have d0:=hb.cell 0 v rfl;refine' qzcf;clear hb hown;go_in;go_wp2_with (at_builtin;refine n0h rfl _ _ rfl B v bs s rfl HO.out rfl ?cL hB ?_)
 case cL=>omega
 intro v' w2 hown2 hgrow hbel;have hlt:=HB.out.lt;have hne:=x0f HO.out HB.out neW
 have hb2:Bk 254 w2 b #[v]:=(hgrow.block b hlt (fun e=>hne e.symm)).trans HB.out
 have HT:=Lib.hid (Oth.grown (b:=b) HO.out hgrow);obtain⟨va2,vc2,rfl⟩:=b0d hown2;have d0:=hb2.cell 0 v rfl;have f0:=hb2.frozen 0;have HB2:=Lib.hid hb2;have HO2:=Lib.hid hown2;clear hb2 hown2 hgrow HB HO hne hlt;generalize bs++s.data.toList=bs2 at *;refine' qzaj;exact⟨rfl,⟨hBb,_,HB2.out.set rfl,o0e HO2.out HB2.out neW⟩,hbel.setCell (p:=⟨b,0,none⟩) hBb _,HT.out.trans Oth.set⟩
theorem u0b (B b:Nat)(bs:List UInt8)(v:Int)(n:Nat)(ni:Int)(hni:ni=n)(h1:1≤n)(h7:n≤7)(w:World)(h:Wri B b bs w)(hB:B≤w.heap.size)(hl:bs.length≤800000) :
    Calls Tryz.prog 366 #[.pointer (some ⟨b,0,none⟩),.int .i64 v,.int .i64 ni] w (Laid B b (bs++layN v n) w):=by
 have P1:=Lib.hid (s0c v n ni hni h1 h7 w);refine' qz9d;generalize (⟨(layN v n).toArray⟩:ByteArray)=s at *;have HW:=Lib.hid h;clear h hni;refine' qz16;refine' qz78;have P2:=Lib.hid (x0b B b bs s w1 (HW.out.below hb) (Nat.le_trans hB hb.size) hl HS.out);have HO:=Lib.hid (Oth.below (b:=b) hb);have HL:=Lib.hid (hb.mono hB);clear hb P1;refine' qzg;refine P2.out.mono ?_;rintro e w2 ⟨rfl,hw,hb,ho⟩;refine' qzaj
 exact⟨rfl,by rw[←HE.out];exact hw,HL.out.trans hb,HO.out.trans ho⟩
structure U (B b k:Nat)(w0 W:World)(m:M)(bs:List UInt8):Prop where
  wr:Wri B b bs W
  m:Bx W k m
  bel:Below B w0 W
  oth:Oth b w0 W
  siz:B≤W.heap.size
  ne:k≠b
section
variable {B b k:Nat} {w0 W W':World} {m:M} {bs bs':List UInt8}
theorem U.start (w:World)(h:Wri B b bs w)(hB:B≤w.heap.size):U B b w.heap.size w (w.alloc (.cells m.cells 29)) m bs:=
  ⟨h.below (balloc (Below.refl _ w) _),Bx.new w m,(balloc (Below.refl _ w) _).mono hB,Oth.below (balloc (Below.refl _ w) _),Nat.le_trans hB (balloc (Below.refl w.heap.size w) (.cells m.cells 29)).size,by have:=h.lt;omega⟩
theorem U.call (u:U B b k w0 W m bs)(hb:Below W.heap.size W W'):U B b k w0 W' m bs:=
  ⟨u.wr.below hb,u.m.below hb,u.bel.trans (hb.mono u.siz),u.oth.trans (Oth.below hb),Nat.le_trans u.siz hb.size,u.ne⟩
theorem U.lay {e:Ending}(u:U B b k w0 W m bs)(h:Laid B b bs' W e W'):U B b k w0 W' m bs':=
  ⟨h.2.1,h.2.2.2.bx u.ne u.m,u.bel.trans h.2.2.1,u.oth.trans h.2.2.2,Nat.le_trans u.siz h.2.2.1.size,u.ne⟩
end
theorem i0j (n:Nat):(⟨(List.replicate n (0:UInt8)).toArray⟩:ByteArray).data.toList=List.replicate n 0:=rfl
theorem p0y (B b:Nat)(bs:List UInt8)(m:M)(w:World)(h:Wri B b bs w)(hB:B≤w.heap.size)(hl:bs.length≤700000):Calls Tryz.prog 365 #[.pointer (some ⟨b,0,none⟩),.agg m.cells] w (Laid B b (bs++fld7 m) w):=by
 refine' qz7k;clear hl;refine' qz6g;refine' qz8c;refine' qzcx;have c17:=HU.out.m.cs.c17;refine' qzg
 refine(Oct.y0e 2 _ (by omega)).mono ?_
 rintro r V' ⟨rfl,hb⟩;have HU:=Lib.hid (HU.out.call hb);clear hb;clear c14 c17;refine' qzcx;have c17:=HU.out.m.cs.c17;refine' qzg
 refine(x0b B b _ ⟨(List.replicate 2 (0:UInt8)).toArray⟩ _ HU.out.wr HU.out.siz (by have:=HL.out;omega) (by decide)).mono ?_
 refine' qz8m;clear c14 c17;refine' qzcx;have c17:=HU.out.m.cs.c17;rw[i0j]at HU;refine' qzg
 refine(u0b B b _ m.nonce 2 2 rfl (by omega) (by omega) _ HU.out.wr HU.out.siz (by have:=HL.out;simp only[List.length_append,List.length_replicate];have:=i0a (m.nonce) 2;omega)).mono ?_
 refine' qz8m;clear c14;refine' qzcx;refine' qzg
 refine(u0b B b _ m.interval 2 2 rfl (by omega) (by omega) _ HU.out.wr HU.out.siz (by have:=HL.out;simp only[List.length_append,List.length_replicate];have:=i0a (m.interval) 2;have:=i0a (m.nonce) 2;omega)).mono ?_
 refine' qz8m;refine' qzaj;refine' qza1
 rw[show bs++fld7 m=bs++List.replicate 2 0++layN m.nonce 2++layN m.interval 2 by simp[fld7]];exact hw
theorem y0n (B b:Nat)(bs:List UInt8)(m:M)(w:World)(h:Wri B b bs w)(hB:B≤w.heap.size)(hl:bs.length≤700000)(f0:0≤m.flags)(f1:m.flags≤1):Calls Tryz.prog 367 #[.pointer (some ⟨b,0,none⟩),.agg m.cells] w (Laid B b (bs++fld9 m) w):=by
 refine' qz7k
 have hq:wrap64 (m.flags*32768)=m.flags*32768:=IntWalk.wrap64_in _ ⟨by omega,by omega⟩
 clear hl;refine' qz6g;refine' qz8c;have c12:=HU.out.m.cs.c12;refine' qzcx;have c15:=HU.out.m.cs.c15;refine' qzg
 refine(u0b B b _ (m.flags*32768) 2 2 rfl (by omega) (by omega) _ HU.out.wr HU.out.siz (by have:=HL.out;have:=i0a ((m.flags*32768)) 2;omega)).mono ?_
 refine' qz8m;clear c12 c14;have c12:=HU.out.m.cs.c12;refine' qzcx;refine' qzg
 refine(u0b B b _ m.seq 2 2 rfl (by omega) (by omega) _ HU.out.wr HU.out.siz (by have:=HL.out;simp only[List.length_append];have:=i0a (m.seq) 2;have:=i0a (m.flags*32768) 2;omega)).mono ?_
 refine' qz8m;clear c14;refine' qzcx;refine' qzg
 refine(u0b B b _ m.interval 2 2 rfl (by omega) (by omega) _ HU.out.wr HU.out.siz (by have:=HL.out;simp only[List.length_append];have:=i0a (m.interval) 2;have:=i0a (m.flags*32768) 2;have:=i0a (m.seq) 2;omega)).mono ?_
 refine' qz8m;refine' qzaj;refine' qza1
 rw[show bs++fld9 m=bs++layN (m.flags*32768) 2++layN m.seq 2++layN m.interval 2 by simp[fld9]];exact hw
theorem g0u (B b:Nat)(bs:List UInt8)(m:M)(w:World)(h:Wri B b bs w)(hB:B≤w.heap.size)(hl:bs.length≤700000)(ha:shB m.ae m.addr=true)(ht:Tab w)(hB0:2<B):Calls Tryz.prog 368 #[.pointer (some ⟨b,0,none⟩),.agg m.cells] w (Laid B b (bs++t0h m) w):=by
 refine' qz7k
 have PS:=Lib.hid (fun V (h:Tab V)=>h0o m.ae m.addr V h)
 have HE:=Lib.hid (show bs++t0h m=bs++layN m.ae 1++List.replicate 1 0++layN m.cost 2++layN m.interval 2++(shT m.ae m.addr).data.toList by simp[t0h])
 have HT:=Lib.hid ht;rw[ha]at PS
 have HZ:=Lib.hid (show(shT m.ae m.addr).size≤100000 by have:=(b0r ha).2.2.1;have:=h0k m.ae;omega)
 generalize shT m.ae m.addr=sa at *;clear hl ha ht;refine' qz6g;refine' qz8c;have c5:=HU.out.m.cs.c5;refine' qzcx;have c18:=HU.out.m.cs.c18;have c19:=HU.out.m.cs.c19;refine' qz7r;refine' qz8m;clear c5 c14 c18 c19;have c5:=HU.out.m.cs.c5;refine' qzcx;have c18:=HU.out.m.cs.c18;have c19:=HU.out.m.cs.c19;refine' qzg
 refine(Oct.y0e 1 _ (by omega)).mono ?_
 rintro r V' ⟨rfl,hb⟩;have HU:=Lib.hid (HU.out.call hb);clear hb;clear c5 c14 c18 c19;have c5:=HU.out.m.cs.c5;refine' qzcx;have c18:=HU.out.m.cs.c18;have c19:=HU.out.m.cs.c19;refine' qzg
 refine(x0b B b _ ⟨(List.replicate 1 (0:UInt8)).toArray⟩ _ HU.out.wr HU.out.siz (by have:=HL.out;simp only[List.length_append];have:=i0a (m.ae) 1;omega) (by decide)).mono ?_
 refine' qz8m;clear c5 c14 c18 c19;have c5:=HU.out.m.cs.c5;refine' qzcx;have c18:=HU.out.m.cs.c18;have c19:=HU.out.m.cs.c19;rw[i0j]at HU;refine' qzg
 refine(u0b B b _ m.cost 2 2 rfl (by omega) (by omega) _ HU.out.wr HU.out.siz (by have:=HL.out;simp only[List.length_append,List.length_replicate];have:=i0a (m.cost) 2;have:=i0a (m.ae) 1;omega)).mono ?_
 refine' qz8m;clear c5 c14 c19;have c5:=HU.out.m.cs.c5;refine' qzcx;have c19:=HU.out.m.cs.c19;refine' qzg
 refine(u0b B b _ m.interval 2 2 rfl (by omega) (by omega) _ HU.out.wr HU.out.siz (by have:=HL.out;simp only[List.length_append,List.length_replicate];have:=i0a (m.interval) 2;have:=i0a (m.ae) 1;have:=i0a (m.cost) 2;omega)).mono ?_
 refine' qz8m;clear c5 c19;have c5:=HU.out.m.cs.c5;have c19:=HU.out.m.cs.c19;refine' qzg;refine(PS.out _ (HT.out.under HU.out.bel hB0)).mono ?_;rintro r V' ⟨rfl,rfl⟩;refine' qzg
 refine(x0b B b _ sa _ HU.out.wr HU.out.siz (by have:=HL.out;simp only[List.length_append,List.length_replicate];have:=i0a (m.ae) 1;have:=i0a (m.cost) 2;have:=i0a (m.interval) 2;omega) HZ.out).mono ?_
 refine' qz8m;refine' qzaj;refine' qza1;rw[HE.out];exact hw
def LaidT (B b:Nat)(t:Int)(bs:List UInt8)(w:World)(e:Ending)(w':World):Prop:=e = .returned (.int .i64 t)∧Wri B b bs w'∧Below B w w'∧Oth b w w'
theorem b0m (B b:Nat)(m:M)(w:World)(h:Wri B b [] w)(hB:B≤w.heap.size)(hk:kindB m=true)(ht:Tab w)(hB0:2<B):Calls Tryz.prog 358 #[.pointer (some ⟨b,0,none⟩),.agg m.cells] w (LaidT B b (typF m) (fldF m) w):=by
 rcases kind_cases hk with k1|k1|⟨k1,f0,f1⟩|⟨k1,ha⟩
 · rw[(f_7 k1).1,(f_7 k1).2];clear hk;refine' qz6g;refine' qz8c;refine' qz6i
   go_wp2_with (first|(refine j0a (b:=k) (m:=m) rfl _ rfl rfl HU.out.m ?_))
   refine(p0y B b [] m _ HU.out.wr HU.out.siz (by decide)).mono ?_
   refine' qz4w;clear hlaid c0;refine' qzj;exact⟨rfl,HU.out.wr,HU.out.bel,HU.out.oth⟩
 · rw[(f_8 k1).1,(f_8 k1).2];clear hk;refine' qz6g;refine' qz8c;have c0:=HU.out.m.cs.c0;have c17:=HU.out.m.cs.c17;rw[k1]at c0;refine' qzg
   refine(u0b B b [] m.nonce 2 2 rfl (by omega) (by omega) _ HU.out.wr HU.out.siz (by decide)).mono ?_
   refine' qz4w;clear hlaid c0;refine' qzj;exact⟨rfl,HU.out.wr,HU.out.bel,HU.out.oth⟩
 · rw[(f_9 k1).1,(f_9 k1).2];clear hk;refine' qz6g;refine' qz8c;refine' qz6i
   go_wp2_with (first|(refine j0a (b:=k) (m:=m) rfl _ rfl rfl HU.out.m ?_))
   refine(y0n B b [] m _ HU.out.wr HU.out.siz (by decide) f0 f1).mono ?_
   refine' qz4w;clear hlaid c0;refine' qzj;exact⟨rfl,HU.out.wr,HU.out.bel,HU.out.oth⟩
 · rw[(f_10 k1).1,(f_10 k1).2];clear hk;refine' qz6v;refine' qz6g;refine' qz8c;refine' qz6i
   go_wp2_with (first|(refine j0a (b:=k) (m:=m) rfl _ rfl rfl HU.out.m ?_))
   refine(g0u B b [] m _ HU.out.wr HU.out.siz (by decide) ha (HT.out.under HU.out.bel hB0) hB0).mono ?_
   refine' qz4w;clear hlaid c0;refine' qzj;exact⟨rfl,HU.out.wr,HU.out.bel,HU.out.oth⟩
theorem k0u (m:M):(⟨(fldF m).toArray⟩:ByteArray)++putS m.sl=datF m:=k0a (by unfold datF;simp[ByteArray.data_append])
theorem c0b (m:M)(w:World)(hm:m.In w)(ln:m.sl.length≤2000)(lb:∀ x∈m.sl,x.1.size≤1099511627776)(ht:Tab w):Calls Tryz.prog 336 #[.agg m.cells] w fun e w'=>e = .returned (.tuple #[.string (putF m),.bool (okF m)])∧Below w.heap.size w w':=by
 refine' qz40;have hp1:=ht.pos;have HM:=Lib.hid (ht.below (balloc (Below.refl _ w) (.cells m.cells 29)));have HI:=Lib.hid hm
 have P1:=Lib.hid (fun V (h:m.In V) (t:Tab V)=>l0a m V h lb t)
 have P2:=Lib.hid (fun V (h:m.In V)=>S3.c0b m.sa m.sc m.sl V h.s ln lb)
 clear lb hm ln ht;cases hok:okF m
 · have HK:=Lib.hid (m1l hok);rw[hok]at P1;clear hok;refine' qz2f;refine' qz1q;refine' qz3r;clear hb;refine' qz2w;exact⟨t0b HK.out.symm rfl,HF.out.bel⟩
 have HK:=Lib.hid (l0y hok);have HX:=Lib.hid ((x0a m).1 hok).kind;have HS:=Lib.hid ((x0a m).1 hok).subs;have HY:=Lib.hid (h0q hok)
 have HZ:=Lib.hid (show(datF m).size≤1048576 by have:=v0l hok;omega)
 have HC:=Lib.hid (k0u m)
 have HC1:=Lib.hid (show(⟨(fldF m).toArray⟩:ByteArray).size≤2000000 by have:=(u0d hok).1;show(fldF m).toArray.size≤_;simp;omega)
 have HC2:=Lib.hid (show(putS m.sl).size≤2000000 by have:=m0g m.sl;omega)
 rw[hok]at P1;rw[HS.out]at P2;clear hok;refine' qz2f;refine' qz1q;refine' qz3r;have HM:=Lib.hid (HM.out.below hb);clear hb P1;refine' qzco;have bel:=balloc (Below.refl w1.heap.size w1) (.cells #[.slice none 0 0] 254)
 have HW:=Lib.hid (show Wri w1.heap.size w1.heap.size [] (w1.alloc (.cells #[.slice none 0 0] 254))from⟨Nat.le_refl _,.slice none 0 0,Bk.Bk.new _ w1 _,Own.nil _ _⟩)
 have hlt:w.heap.size<w1.heap.size:=HF.out.m.lt;have HF:=Lib.hid (HF.out.call bel);have HM:=Lib.hid (HM.out.below bel);have hsz:w1.heap.size≤(w1.alloc (.cells #[.slice none 0 0] 254)).heap.size:=bel.size;clear bel;generalize w1.alloc (.cells #[.slice none 0 0] 254)=W at *;generalize w1.heap.size=b at *;refine' qz1p
 refine(b0m b b m _ HW.out hsz HX.out HM.out (by omega)).mono ?_
 rintro r w2 ⟨rfl,hw,hb,ho⟩
 have HF:=Lib.hid (show Fs w w2 w.heap.size m from⟨ho.bx (by omega) HF.out.m,HI.out.below (HF.out.bel.trans (hb.mono (by omega))),HF.out.bel.trans (hb.mono (by omega))⟩)
 have HW:=Lib.hid hw;clear hw hb ho hsz HM;refine' qz2;refine' qzg;refine' qzcz;rintro r w3 ⟨rfl,hb⟩;refine' qzq;have HW:=Lib.hid (HW.out.below hb);clear hb c24 P2;obtain⟨_,v,hb,ho⟩:=HW.out;have d0:=hb.cell 0 v rfl
 have cv:=ho.conv
 have ct:=fun W=>F6.y0d _ _ _ HC1.out HC2.out HC.out W
 have PP:=Lib.hid (fun V=>F6.c0b (typF m) (datF m) V HZ.out)
 generalize (⟨(fldF m).toArray⟩:ByteArray)=fa at *;generalize putS m.sl=sb at *;generalize datF m=da at *;generalize typF m=ty at *;clear hb ho HW;refine' qzg;refine(PP.out _).mono ?_;rintro r w4 ⟨rfl,hb⟩;refine' qzq;clear hb;refine' qz2w;exact⟨t0b HK.out.symm HY.out,HF.out.bel⟩
end G3
namespace Jr
open Ms Box S1 J1 J2 An Tc
open Oct (fitsB)
open Hs (a0b)
open Go.Proofs.YtllhobicfclheaaGreatDoor.Or (p0a)
theorem i0f (m:M)(w:World)(hm:m.In w):Calls Tryz.prog 77 #[.agg m.cells] w fun e w'=>e = .returned (.bool (bare m))∧Below w.heap.size w w':=Bare.z0c m w hm
theorem l0a (m:M)(w:World)(hm:m.In w)(lb:∀ x∈m.sl,x.1.size≤1099511627776)(hp:m.pfx.size≤maxLen)(ht:Tab w):Calls Tryz.prog 109 #[.agg m.cells] w fun e w'=>e = .returned (.bool (okJ m))∧Below w.heap.size w w':=by
 refine' qz41
 have HK:=Lib.hid (show okJ m=(bare m&&(inB m.ae m.pfx m.plen&&(okS m.sl&&kindB m)))from rfl)
 have P1:=Lib.hid (fun V (h:m.In V)=>i0f m V h)
 have P2:=Lib.hid (fun V (h:Tab V)=>z0y m.ae m.pfx m.plen V hp h)
 have P3:=Lib.hid (fun V (h:m.In V)=>S2.l0a m.sa m.sc m.sl V h.s h.sl lb)
 have P4:=Lib.hid (fun V=>j0m m V)
 clear lb hm ht hp;generalize okJ m=y at *;generalize bare m=x1 at *;generalize inB m.ae m.pfx m.plen=x2 at *;generalize okS m.sl=x3 at *;generalize kindB m=x4 at *;refine' qz2f;refine' qz95;cases x1
 · refine' qzf;refine' qzat;refine' qz8s;refine' qz4;go_ret;exact⟨J2.g0a HK.out.symm,HF.out.bel⟩
 cases x2
 · refine' qzf;refine' qzat;refine' qz8s;refine' qz4;refine(P2.out _ HM.out).mono ?_;refine' qzat;refine' qz8s;refine' qz4;go_ret;exact⟨J2.g0a HK.out.symm,HF.out.bel⟩
 cases x3
 · refine' qzf;refine' qzat;refine' qz8s;refine' qz4;refine(P2.out _ HM.out).mono ?_;refine' qzat;refine' qz8s;refine' qz4;refine' qzcu;refine' qzat;refine' qz8s;refine' qz4;go_ret;exact⟨J2.g0a HK.out.symm,HF.out.bel⟩
 refine' qzf;refine' qzat;refine' qz8s;refine' qz4;refine(P2.out _ HM.out).mono ?_;refine' qzat;refine' qz8s;refine' qz4;refine' qzcu;refine' qzat;refine' qz8s;refine' qz4;refine(P4.out _).mono ?_;refine' qzat;refine' qz8s;refine' qz4;go_ret;exact⟨J2.g0a HK.out.symm,HF.out.bel⟩
end Jr
end Go.Proofs.YtllhobicfclheaaGreatDoor
