/-
  A part of a proof. No conditions.
-/
import Derived.Test.YtllhobicfclheaaGreatDoorY28
import Derived.Test.YtllhobicfclheaaGreatDoorY29
namespace Go.Proofs.YtllhobicfclheaaGreatDoor
open Go.ChangeShapes Go.WideShapes Go.ChangeAt Go.RowKit
set_option linter.unusedVariables false
set_option maxRecDepth 100000
set_option maxHeartbeats 51200000
namespace J2
open Ms Box S1 Lk
open Nu (k0a)
open J1 An Tc
open Oct (fitsB)
open Bits (keepL r0a)
open Pre (leastN cutL fillL b0c rightZ)
open Hs
open Go.Proofs.YtllhobicfclheaaGreatDoor.Or (p0a)
theorem g0a {a b:Bool}(h:a=b):Ending.returned (.bool a) = .returned (.bool b):=by rw[h]
theorem int_eq {a b:Int}(h:a=b):Ending.returned (.int .i64 a) = .returned (.int .i64 b):=by rw[h]
theorem n0d {a b:ByteArray}(h:a=b):Ending.returned (.string a) = .returned (.string b):=by rw[h]
theorem t0b {s t:ByteArray}{b c:Bool}(h:s=t)(k:b=c):Ending.returned (.tuple #[.string s,.bool b]) = .returned (.tuple #[.string t,.bool c]):=by rw[h,k]
theorem g0g (ae p:Int):lenB ae p=(decide (0≤ae)&&(decide (ae≤3)&&(decide (minA ae≤p)&&decide (p≤maxA ae)))):=rfl
theorem size_eq (a:ByteArray)(k:Nat):((a.size:Int)==(k:Int))=decide (a.size=k):=by rw[Bool.eq_iff_iff];simp;omega
theorem nil_eq (a:ByteArray):(a.toList==([]:List UInt8))=decide (a.size=0):=by
 rw[Bool.eq_iff_iff,beq_iff_eq,decide_eq_true_eq,ByteArray.toList_eq,←c0a,List.length_eq_zero_iff]
theorem k0f (a:ByteArray):a.toList.isEmpty=decide (a.size=0):=by rw[←nil_eq];cases a.toList<;>rfl
theorem v0p (n:Int)(w:World):Calls Tryz.prog 288 #[.int .i64 n] w fun e w'=>e = .returned (.bool (decide (0≤n∧n≤3)))∧w=w':=by
 refine' qz94;rw[decide_eq_true ⟨h0,h1⟩];refine' qz67
 exact⟨g0a (decide_eq_true (by omega)),rfl⟩
theorem e0q (ae p:Int)(w:World)(ht:Tab w):Calls Tryz.prog 244 #[.int .i64 ae,.int .i64 p] w fun e w'=>e = .returned (.bool (lenB ae p))∧w=w':=by
 have PA:=Lib.hid (fun V=>v0p ae V)
 by_cases hi:0≤ae∧ae≤3;rotate_left
 · have HK:=Lib.hid (show lenB ae p=false from by
    cases h:lenB ae p
    ·
     rfl
    ·
     exact absurd ⟨(q0b h).1,(q0b h).2.1⟩ hi)
   rw[decide_eq_false hi]at PA;clear ht hi;refine' qz16;refine' qz2l;refine' qz32
 rw[decide_eq_true hi]at PA;obtain⟨s0,s1,s2,s3,s4,s5,s6,s7⟩:=ht
 rcases(show ae=0∨ae=1∨ae=2∨ae=3 by omega)with rfl|rfl|rfl|rfl
 · by_cases h0:0≤p;rotate_left
   · have HK:=Lib.hid (show lenB 0 p=false from by rw[g0g,decide_eq_false (show ¬minA 0≤p from h0)];rfl)
     clear hi;refine' qz16;refine' qz2l;refine' qz32
   by_cases h1:p≤0;rotate_left
   · have HK:=Lib.hid (show lenB 0 p=false from by rw[g0g,decide_eq_false (show ¬p≤maxA 0 from h1),Bool.and_false,Bool.and_false,Bool.and_false])
     have hq:decide (p≤0)=false:=decide_eq_false h1;clear hi;refine' qz16;refine' qz2l;refine' qz32
   have HK:=Lib.hid (show lenB 0 p=true from by rw[g0g,decide_eq_true (show minA 0≤p from h0),decide_eq_true (show p≤maxA 0 from h1)];rfl)
   have hq:decide (p≤0)=true:=decide_eq_true h1;clear hi;refine' qz16;refine' qz2l;refine' qz32
 · by_cases h0:0≤p;rotate_left
   · have HK:=Lib.hid (show lenB 1 p=false from by rw[g0g,decide_eq_false (show ¬minA 1≤p from h0)];rfl)
     clear hi;refine' qz16;refine' qz2l;refine' qz32
   by_cases h1:p≤32;rotate_left
   · have HK:=Lib.hid (show lenB 1 p=false from by rw[g0g,decide_eq_false (show ¬p≤maxA 1 from h1),Bool.and_false,Bool.and_false,Bool.and_false])
     have hq:decide (p≤32)=false:=decide_eq_false h1;clear hi;refine' qz16;refine' qz2l;refine' qz32
   have HK:=Lib.hid (show lenB 1 p=true from by rw[g0g,decide_eq_true (show minA 1≤p from h0),decide_eq_true (show p≤maxA 1 from h1)];rfl)
   have hq:decide (p≤32)=true:=decide_eq_true h1;clear hi;refine' qz16;refine' qz2l;refine' qz32
 · by_cases h0:0≤p;rotate_left
   · have HK:=Lib.hid (show lenB 2 p=false from by rw[g0g,decide_eq_false (show ¬minA 2≤p from h0)];rfl)
     clear hi;refine' qz16;refine' qz2l;refine' qz32
   by_cases h1:p≤128;rotate_left
   · have HK:=Lib.hid (show lenB 2 p=false from by rw[g0g,decide_eq_false (show ¬p≤maxA 2 from h1),Bool.and_false,Bool.and_false,Bool.and_false])
     have hq:decide (p≤128)=false:=decide_eq_false h1;clear hi;refine' qz16;refine' qz2l;refine' qz32
   have HK:=Lib.hid (show lenB 2 p=true from by rw[g0g,decide_eq_true (show minA 2≤p from h0),decide_eq_true (show p≤maxA 2 from h1)];rfl)
   have hq:decide (p≤128)=true:=decide_eq_true h1;clear hi;refine' qz16;refine' qz2l;refine' qz32
 · by_cases h0:64≤p;rotate_left
   · have HK:=Lib.hid (show lenB 3 p=false from by rw[g0g,decide_eq_false (show ¬minA 3≤p from h0)];rfl)
     clear hi;refine' qz16;refine' qz2l;refine' qz32
   by_cases h1:p≤128;rotate_left
   · have HK:=Lib.hid (show lenB 3 p=false from by rw[g0g,decide_eq_false (show ¬p≤maxA 3 from h1),Bool.and_false,Bool.and_false,Bool.and_false])
     have hq:decide (p≤128)=false:=decide_eq_false h1;clear hi;refine' qz16;refine' qz2l;refine' qz32
   have HK:=Lib.hid (show lenB 3 p=true from by rw[g0g,decide_eq_true (show minA 3≤p from h0),decide_eq_true (show p≤maxA 3 from h1)];rfl)
   have hq:decide (p≤128)=true:=decide_eq_true h1;clear hi;refine' qz16;refine' qz2l;refine' qz32
def famN (a:ByteArray):Int:=if a.size=4 then 0 else if a.size=16 then 1 else -1
theorem l0j (s:ByteArray)(w:World):Calls Tryz.prog 225 #[.string s] w fun e w'=>e = .returned (.int .i64 (famN s))∧w=w':=by
 by_cases h4:s.size=4
 · have HK:=Lib.hid (show famN s=0 by unfold famN;rw[if_pos h4])
   have e0:((s.size:Int)==4)=true:=by rw[beq_iff_eq];omega
   clear h4;refine' qza5
 refine' qz68;by_cases h6:s.size=16
 · have HK:=Lib.hid (show famN s=1 by unfold famN;rw[if_neg h4,if_pos h6])
   refine' qzd5;clear h4 h6;refine' qza5
 refine' qz69
 have HK:=Lib.hid (show famN s = -1 by unfold famN;rw[if_neg h4,if_neg h6])
 clear h4 h6;refine' qza5
theorem u1o (a:ByteArray):(famN a==0)=decide (a.size=4):=by
 unfold famN;by_cases h4:a.size=4
 · rw[if_pos h4,decide_eq_true h4];rfl
 · rw[if_neg h4,decide_eq_false h4]
   split<;>rfl
theorem y1o (a:ByteArray):(famN a==1)=decide (a.size=16):=by
 unfold famN;by_cases h4:a.size=4
 · rw[if_pos h4,decide_eq_false (by omega)];rfl
 · rw[if_neg h4];by_cases h6:a.size=16
   · rw[if_pos h6,decide_eq_true h6];rfl
   · rw[if_neg h6,decide_eq_false h6];rfl
theorem u0h (ae:Int)(a:ByteArray)(w:World):Calls Tryz.prog 243 #[.int .i64 ae,.string a] w fun e w'=>e = .returned (.bool (adrB ae a))∧w=w':=by
 by_cases h0:ae=0
 · subst h0
   have HK:=Lib.hid (show adrB 0 a=decide (a.size=0)from rfl)
   have he:=nil_eq a;have he2:=k0f a;generalize decide (a.size=0)=z at *;generalize adrB 0 a=y at *;go_in;refine' qz32
 by_cases h1:ae=1
 · subst h1
   have HK:=Lib.hid (show adrB 1 a=decide (a.size=4)from rfl)
   have PF:=Lib.hid (fun V=>l0j a V)
   have he:=u1o a;generalize decide (a.size=4)=z at *;generalize adrB 1 a=y at *;generalize famN a=f at *;refine' qz16;refine(PF.out _).mono ?_;refine' qz2k;refine' qz32
 by_cases h2:ae=2
 · subst h2
   have HK:=Lib.hid (show adrB 2 a=decide (a.size=16)from rfl)
   have PF:=Lib.hid (fun V=>l0j a V)
   have he:=y1o a;generalize decide (a.size=16)=z at *;generalize adrB 2 a=y at *;generalize famN a=f at *;refine' qz16;refine(PF.out _).mono ?_;refine' qz2k;refine' qz32
 by_cases h3:ae=3
 · subst h3
   have HK:=Lib.hid (show adrB 3 a=link a from rfl)
   have PF:=Lib.hid (fun V=>z0f a V)
   generalize link a=z at *;generalize adrB 3 a=y at *;refine' qz16;refine(PF.out _).mono ?_;refine' qz2k;refine' qz32
 have HK:=Lib.hid (show adrB ae a=false by unfold adrB;rw[if_neg h0,if_neg h1,if_neg h2,if_neg h3])
 have e0:(ae==0)=false:=by simpa using h0
 have e1:(ae==1)=false:=by simpa using h1
 have e2:(ae==2)=false:=by simpa using h2
 have e3:(ae==3)=false:=by simpa using h3
 go_in;refine' qz32
theorem z0y (ae:Int)(a:ByteArray)(p:Int)(w:World)(ha:a.size≤maxLen)(ht:Tab w):Calls Tryz.prog 182 #[.int .i64 ae,.string a,.int .i64 p] w fun e w'=>e = .returned (.bool (inB ae a p))∧Below w.heap.size w w':=by
 have P1:=Lib.hid (fun V=>u0h ae a V)
 have P2:=Lib.hid (e0q ae p w ht)
 have P3:=Lib.hid (fun V=>Pre.l0a a p V ha)
 have HK:=Lib.hid (show inB ae a p=(adrB ae a&&(lenB ae p&&(decide (ae=0)||rightZ a p)))from rfl)
 clear ht ha;generalize inB ae a p=y at *;generalize adrB ae a=x1 at *;generalize lenB ae p=x2 at *;generalize rightZ a p=x3 at *;cases x1
 · go_in;refine' qz2h;refine' qzj;exact⟨g0a HK.out.symm,Below.refl _ _⟩
 cases x2
 · go_in;refine' qz2h;refine' qzg;refine(P2.out).mono ?_;refine' qz2g;refine' qzj;exact⟨g0a HK.out.symm,Below.refl _ _⟩
 by_cases h0:ae=0
 · subst h0;go_in;refine' qz2h;refine' qzg;refine(P2.out).mono ?_;refine' qz2g;refine' qzj;exact⟨g0a HK.out.symm,Below.refl _ _⟩
 have e0:(ae==0)=false:=by simpa using h0
 rw[decide_eq_false h0]at HK;clear h0;go_in;refine' qz2h;refine' qzg;refine(P2.out).mono ?_;refine' qz2g;refine' qz25;rintro r w' ⟨rfl,hb⟩;refine' qzj;exact⟨g0a HK.out.symm,hb⟩
theorem y0c (ae p:Int)(w:World)(h:lenB ae p=true):Calls Tryz.prog 326 #[.int .i64 ae,.int .i64 p] w fun e w'=>e = .returned (.int .i64 (countN ae p:Nat))∧w=w':=by
 have hr:=q0b h;have hc:=count_le h
 have P1:=Lib.hid (fun V=>Pre.f0t p V (by omega))
 by_cases h3:ae=3
 · subst h3
   have HK0:((countN 3 p:Nat):Int)=(leastN p:Int) - 8:=by have:baseN 3=8:=rfl;omega
   have hw:wrap64 ((leastN p:Int) - 8)=(leastN p:Int) - 8:=IntWalk.wrap64_in _ ⟨by omega,by have:=hc.1;have:baseN 3=8:=rfl;omega⟩
   have HK:=Lib.hid (hw.trans HK0.symm);clear hw HK0;generalize countN 3 p=c at *;generalize leastN p=n at *;clear hr hc h;go_in;refine' qz2h;refine' qzj;exact⟨int_eq HK.out,rfl⟩
 have HK:=Lib.hid (show((countN ae p:Nat):Int)=(leastN p:Int)from by
  have:baseN ae=0:=by unfold baseN;rw[if_neg h3]
  omega)
 have e3:(ae==3)=false:=by simpa using h3
 generalize countN ae p=c at *;generalize leastN p=n at *;clear hr hc h;go_in;refine' qz2h;refine' qzj;exact⟨int_eq HK.out.symm,rfl⟩
theorem k0i {ae:Int}{a:ByteArray}{p:Int}(h:inB ae a p=true):a.size≤16:=by
 rcases(r0b h).2 with⟨_,h0⟩|⟨⟨_,h0⟩|⟨_,h0⟩|⟨_,h0⟩,_⟩
 · omega
 · omega
 · omega
 · have:=i0d h0;omega
theorem t1i {ae:Int}{a:ByteArray}{p:Int}(h:inB ae a p=true):(cutL a.data.toList p).length=leastN p:=by
 have h1:=t0e h;have h2:=(count_le (r0b h).1).2;unfold cutP at h1;rw[d0c,List.length_drop]at h1
 rcases(r0b h).2 with⟨rfl,h0⟩|⟨hc,h8,_⟩
 · have:baseN 0=0:=rfl;omega
 · unfold cutL;have:=(q0b (r0b h).1).2.2.1
   rw[List.length_take,r0a,c0a,Nat.min_eq_left (by unfold leastN;omega)]
theorem g0j (ae:Int)(a:ByteArray)(p:Int)(w:World)(h:inB ae a p=true):Calls Tryz.prog 357 #[.int .i64 ae,.string a,.int .i64 p] w fun e w'=>e = .returned (.string (cutP ae a p))∧Below w.heap.size w w':=by
 have hl:=(r0b h).1;have hr:=q0b hl;have hc:=count_le hl;have hz:=t1i h;have ha:=k0i h
 have P1:=Lib.hid (fun V=>Pre.g0j a p V (by omega) (by omega))
 have P2:=Lib.hid (fun V=>y0c ae p V hl)
 have hs:(ByteArray.mk (cutL a.data.toList p).toArray).size=leastN p:=by rw[d0c,hz]
 have HK:=Lib.hid (show(ByteArray.mk (cutL a.data.toList p).toArray).extract (baseN ae) (leastN p)=cutP ae a p from k0a (by
  rw[Nu.n0a]
  show((cutL a.data.toList p).drop (baseN ae)).take (leastN p - baseN ae)=(cutL a.data.toList p).drop (baseN ae)
  exact List.take_of_length_le (by rw[List.length_drop,hz];exact Nat.le_refl _)))
 generalize ByteArray.mk (cutL a.data.toList p).toArray=x at *;generalize cutP ae a p=y at *
 have hsl:∀ wx,Sem.run Tryz.prog (Instr.slice 9 (Value.string x) (some (Value.int IntKind.i64 ((x.size:Int) - (countN ae p:Int)))) none none) wx = .ok (.string y) wx:=fun wx=>by
  have:=F2.sl_l x ((x.size:Int) - (countN ae p:Int)) (baseN ae) (leastN p) (by omega) (by omega) hs wx
  rw[HK.out]at this;exact this
 have hln:leastN p≤16:=by unfold leastN;omega
 have hw:wrap64 ((x.size:Int) - (countN ae p:Int))=(x.size:Int) - (countN ae p:Int):=IntWalk.wrap64_in _ ⟨by omega,by omega⟩
 clear hln;generalize countN ae p=c at *;clear hl hr hc hz ha hs h HK;go_in;refine' qzh;rintro r w' ⟨rfl,hb⟩;refine' qz54;refine' qzj;exact⟨rfl,hb⟩
theorem p0e {ae:Int}{s:ByteArray}{p:Int}(hl:lenB ae p=true)(hs:s.size=countN ae p):s.size≤16:=by have:=(count_le hl).1;omega
theorem g0h (ae:Int)(s:ByteArray)(p:Int)(w:World)(hl:lenB ae p=true)(hs:s.size=countN ae p):Calls Tryz.prog 298 #[.int .i64 ae,.string s,.int .i64 p] w fun e w'=>e = .returned (.string (wholeP ae s p))∧Below w.heap.size w w':=by
 have hr:=q0b hl;have hz:=p0e hl hs;have hc:=(count_le hl).2
 have P1:=Lib.hid (fun V=>Pre.g0j s p V (by omega) (by omega))
 have hcl:(cutL s.data.toList p).length≤16:=by
  unfold cutL;rw[List.length_take,r0a,c0a];omega
 rcases len_cases hl with⟨rfl,rfl⟩|⟨rfl,a,b⟩|⟨rfl,a,b⟩|⟨rfl,a,b⟩
 · have HK:=Lib.hid (show wholeP 0 s 0=⟨#[]⟩from rfl)
   generalize wholeP 0 s 0=y at *;clear hr hz hc hl hs hcl;refine' qz67;exact⟨n0d HK.out.symm,Below.refl _ _⟩
 · have hn:s.data.toList.length=leastN p:=by rw[c0a];have:baseN 1=0:=rfl;omega
   have HK:=Lib.hid (show(⟨(fillL (ByteArray.mk (cutL s.data.toList p).toArray).data.toList (4:Int).toNat).toArray⟩:ByteArray)=wholeP 1 s p by
    have:fillL (cutL s.data.toList p) 4=keepL (fillL s.data.toList 4) p.toNat:=m0w a (by omega) hn
    show(⟨(fillL (cutL s.data.toList p) 4).toArray⟩:ByteArray)=_
    rw[this]
    rfl)
   have P2:=Lib.hid (fun V=>Pre.g0h (ByteArray.mk (cutL s.data.toList p).toArray) 4 V (by rw[d0c];omega) (by decide))
   rw[HK.out]at P2;generalize ByteArray.mk (cutL s.data.toList p).toArray=x at *;generalize wholeP 1 s p=y at *;clear hr hz hc hl hs hcl HK hn a b;go_in;refine' qzh;rintro r w' ⟨rfl,hb⟩;refine' qz4n;clear hb;refine' qzt;rintro r w2 ⟨rfl,hb⟩;refine' qzj;exact⟨rfl,bcall HB.out hb⟩
 · have hn:s.data.toList.length=leastN p:=by rw[c0a];have:baseN 2=0:=rfl;omega
   have HK:=Lib.hid (show(⟨(fillL (ByteArray.mk (cutL s.data.toList p).toArray).data.toList (16:Int).toNat).toArray⟩:ByteArray)=wholeP 2 s p by
    have:fillL (cutL s.data.toList p) 16=keepL (fillL s.data.toList 16) p.toNat:=m0w a (by omega) hn
    show(⟨(fillL (cutL s.data.toList p) 16).toArray⟩:ByteArray)=_
    rw[this]
    rfl)
   have P2:=Lib.hid (fun V=>Pre.g0h (ByteArray.mk (cutL s.data.toList p).toArray) 16 V (by rw[d0c];omega) (by decide))
   rw[HK.out]at P2;generalize ByteArray.mk (cutL s.data.toList p).toArray=x at *;generalize wholeP 2 s p=y at *;clear hr hz hc hl hs hcl HK hn a b;go_in;refine' qzh;rintro r w' ⟨rfl,hb⟩;refine' qz4n;clear hb;refine' qzt;rintro r w2 ⟨rfl,hb⟩;refine' qzj;exact⟨rfl,bcall HB.out hb⟩
 · have hb8:baseN 3=8:=rfl
   have hcn:leastN p≤16:=by unfold leastN;omega
   have hfl:(fillL s.data.toList 8).length=8:=b0c _ _ (by rw[c0a];omega)
   have P2:=Lib.hid (fun V=>Pre.g0h s 8 V (by omega) (by decide))
   have HG:=Lib.hid (show lgA ⟨(fillL s.data.toList (8:Int).toNat).toArray⟩=⟨(wholeL 3 s).toArray⟩from by
    have hz8:(ByteArray.mk (fillL s.data.toList 8).toArray).size=8:=by rw[d0c,hfl]
    show lgA ⟨(fillL s.data.toList 8).toArray⟩=_
    unfold lgA;rw[if_pos hz8]
    exact k0a (by show _=lkH.data.toList++fillL s.data.toList 8;simp[ByteArray.data_append]))
   have P3:=Lib.hid (fun V=>a0g ⟨(fillL s.data.toList (8:Int).toNat).toArray⟩ V)
   rw[HG.out]at P3
   have hw16:(wholeL 3 s).length=16:=by have:=j0t hl hs;simpa using this
   have P4:=Lib.hid (fun V=>Pre.g0j ⟨(wholeL 3 s).toArray⟩ p V (by rw[d0c];omega) (by omega))
   have hcl2:(cutL (wholeL 3 s) p).length≤16:=by unfold cutL;rw[List.length_take,r0a];omega
   have P5:=Lib.hid (fun V=>Pre.g0h ⟨(cutL (wholeL 3 s) p).toArray⟩ 16 V (by rw[d0c];omega) (by decide))
   have HK:=Lib.hid (show(⟨(fillL (ByteArray.mk (cutL (wholeL 3 s) p).toArray).data.toList (16:Int).toNat).toArray⟩:ByteArray)=wholeP 3 s p by
    show(⟨(fillL (cutL (wholeL 3 s) p) 16).toArray⟩:ByteArray)=_
    rw[e0z (by omega) b hw16]
    rfl)
   rw[HK.out]at P5
   have P4:=Lib.hid (show ∀ V,Calls Tryz.prog 330 #[.string ⟨(wholeL 3 s).toArray⟩,.int .i64 p] V fun e w'=>e = .returned (.string ⟨(cutL (wholeL 3 s) p).toArray⟩)∧Below V.heap.size V w' from P4.out)
   generalize ByteArray.mk (cutL (wholeL 3 s) p).toArray=x at *;generalize wholeP 3 s p=y at *;generalize ByteArray.mk (wholeL 3 s).toArray=z at *;generalize (⟨(fillL s.data.toList (8:Int).toNat).toArray⟩:ByteArray)=u at *;clear hr hz hc hl hs hcl HK HG hb8 hcn hfl hw16 hcl2 a b P1;go_in;refine' qzt;rintro r w' ⟨rfl,hb⟩;refine' qz4n;clear hb;refine' qz7u;refine' qz8x;rintro r w2 ⟨rfl,hb⟩;refine' qz63;refine' qzg;refine(P5.out _).mono ?_;rintro r w3 ⟨rfl,hb⟩;refine' qzj;exact⟨rfl,bcall HB.out hb⟩
theorem f1q (m:M):seqB m=(!decide (m.ae=0)&&(fitsB m.seq 2&&(decide (m.id.size=8)&&(decide (1≤m.hops)&&fitsB m.hops 1)))):=rfl
theorem j0m (m:M)(w:World):Calls Tryz.prog 185 #[.agg m.cells] w fun e w'=>e = .returned (.bool (kindB m))∧Below w.heap.size w w':=by
 refine' qz7f;by_cases h12:m.kind=12
 · have HK:=Lib.hid (show kindB m=true by unfold kindB;rw[if_pos h12])
   refine' qz2f;refine' qz5g;refine' qzam;have c16:=b0.cs.c16;clear b0;rw[h12]at c0;refine' qz1r
 by_cases h13:m.kind=13;rotate_left
 · have HK:=Lib.hid (show kindB m=false by unfold kindB;rw[if_neg h12,if_neg h13])
   have e12:(m.kind==12)=false:=by simpa using h12
   have e13:(m.kind==13)=false:=by simpa using h13
   refine' qz2f;refine' qz5g;refine' qzam;have c16:=b0.cs.c16;clear b0;refine' qz1r
 have HK:=Lib.hid (show kindB m=(!decide (m.ae=0)&&(fitsB m.seq 2&&(decide (m.id.size=8)&&(decide (1≤m.hops)&&fitsB m.hops 1)))) by unfold kindB;rw[if_neg h12,if_pos h13,f1q])
 have P1:=Lib.hid (fun V=>Oct.k0b m.seq 2 V)
 have P2:=Lib.hid (fun V=>Oct.k0b m.hops 1 V)
 generalize kindB m=y at *;generalize fitsB m.seq 2=x1 at *;generalize fitsB m.hops 1=x2 at *;by_cases h0:m.ae=0
 · rw[decide_eq_true h0]at HK;refine' qz2f;refine' qz5g;refine' qzam;have c16:=b0.cs.c16;clear b0;rw[h13]at c0;rw[h0]at c5;clear h0 h12 h13;refine' qz1r
 have e0:(m.ae==0)=false:=by simpa using h0
 have e1:(m.ae != 0)=true:=by rw[bne,e0];rfl
 rw[decide_eq_false h0]at HK;cases x1
 · refine' qz2f;refine' qz5g;refine' qzam;have c16:=b0.cs.c16;clear b0;rw[h13]at c0;clear h0 h12 h13;refine' qz2h;refine' qz1r
 have e2:((m.id.size:Int)==8)=decide (m.id.size=8):=size_eq m.id 8;by_cases h8:m.id.size=8;rotate_left
 · rw[decide_eq_false h8]at HK e2;clear h8;refine' qz2f;refine' qz5g;refine' qzam;have c16:=b0.cs.c16;clear b0;rw[h13]at c0;clear h0 h12 h13;refine' qz2h;refine' qz1r
 rw[decide_eq_true h8]at HK e2;clear h8;by_cases h1:1≤m.hops;rotate_left
 · rw[decide_eq_false h1]at HK;refine' qz2f;refine' qz5g;refine' qzam;have c16:=b0.cs.c16;clear b0;rw[h13]at c0;clear h0 h12 h13;refine' qz2h;refine' qz1r
 rw[decide_eq_true h1]at HK;refine' qz2f;refine' qz5g;refine' qzam;have c16:=b0.cs.c16;clear b0;rw[h13]at c0;clear h0 h12 h13;refine' qz2h;refine' qz54;refine' qz1r
end J2
end Go.Proofs.YtllhobicfclheaaGreatDoor
