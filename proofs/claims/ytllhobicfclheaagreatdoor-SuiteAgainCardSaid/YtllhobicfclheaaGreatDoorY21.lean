/-
  A part of a proof. No conditions.
-/
import Derived.Test.YtllhobicfclheaaGreatDoorY20
namespace Go.Proofs.YtllhobicfclheaaGreatDoor
open Go.ChangeShapes Go.WideShapes Go.ChangeAt Go.RowKit
set_option linter.unusedVariables false
set_option maxRecDepth 100000
set_option maxHeartbeats 51200000
namespace A1
open Ms Cnt Xv Am
open Q1 (okQ putQ outQ encQ g0i)
open Z1 (okP putP outP encP y0i)
open Y1 (okE putE outE encE x0i)
def okA (m:M):Bool:=okQ m||(okP m||okE m)
def encA (m:M):ByteArray:=if okQ m then putQ m else if okP m then putP m else putE m
theorem kindQ {m:M}(h:okQ m=true):m.kind=3:=((Q1.x0a m).1 h).kind
theorem kindP {m:M}(h:okP m=true):m.kind=4∨m.kind=6:=by
 obtain⟨_,_,hk⟩:=(Z1.x0a m).1 h
 rcases hk with hk|⟨hk,_⟩
 · exact .inr hk
 · exact .inl hk
theorem kindE {m:M}(h:okE m=true):m.kind=5:=by
 obtain⟨hk,_⟩:=(Y1.x0a m).1 h;exact hk
theorem noQ {m:M}(h:¬m.kind=3):okQ m=false:=Bool.eq_false_iff.2 fun k=>h (kindQ k)
theorem noP {m:M}(h:¬m.kind=4)(h':¬m.kind=6):okP m=false:=Bool.eq_false_iff.2 fun k=>(kindP k).elim h h'
theorem noE {m:M}(h:¬m.kind=5):okE m=false:=Bool.eq_false_iff.2 fun k=>h (kindE k)
theorem i1s {m:M}(h:m.kind=3):okA m=okQ m:=by
 unfold okA
 rw[noP (by omega) (by omega),noE (by omega),Bool.or_false,Bool.or_false]
theorem n1s {m:M}(h:m.kind=4∨m.kind=6):okA m=okP m:=by
 unfold okA
 rw[noQ (by omega),noE (by omega),Bool.or_false,Bool.false_or]
theorem f1s {m:M}(h:m.kind=5):okA m=okE m:=by
 unfold okA
 rw[noQ (by omega),noP (by omega) (by omega),Bool.false_or,Bool.false_or]
theorem m1r {m:M}(h3:¬m.kind=3)(h4:¬m.kind=4)(h5:¬m.kind=5)(h6:¬m.kind=6):okA m=false:=by
 unfold okA;rw[noQ h3,noP h4 h6,noE h5];rfl
theorem d1k {m:M}(h:okQ m=true):encA m=putQ m:=by unfold encA;rw[if_pos h]
theorem x0z {m:M}(h:okP m=true):encA m=putP m:=by
 have:=kindP h;unfold encA
 rw[noQ (by omega),if_neg (by decide),if_pos h]
theorem o1j {m:M}(h:okE m=true):encA m=putE m:=by
 have:=kindE h;unfold encA
 rw[noQ (by omega),if_neg (by decide),noP (by omega) (by omega),if_neg (by decide)]
theorem ok_cases {m:M}(h:okA m=true):(m.kind=3∧okQ m=true∧encA m=putQ m)∨((m.kind=4∨m.kind=6)∧okP m=true∧encA m=putP m)∨(m.kind=5∧okE m=true∧encA m=putE m):=by
 unfold okA at h;rw[Bool.or_eq_true,Bool.or_eq_true]at h
 rcases h with h|h|h
 · exact .inl ⟨kindQ h,h,d1k h⟩
 · exact .inr (.inl ⟨kindP h,h,x0z h⟩)
 · exact .inr (.inr ⟨kindE h,h,o1j h⟩)
theorem r1b {m:M}(h:okA m=true):okX m.sl=true:=by
 rcases ok_cases h with⟨_,h,_⟩|⟨_,h,_⟩|⟨_,h,_⟩
 · exact((Q1.x0a m).1 h).subs
 · exact((Z1.x0a m).1 h).subs
 · exact((Y1.x0a m).1 h).subs
theorem k0k {n m:M}(h:Pl n m):okA n=okA m:=by unfold okA;rw[Q6.k0k h,Z6.k0k h,Y6.k0k h]
theorem r0q {n m:M}(h:Pl n m):encA n=encA m:=by unfold encA;rw[Q6.k0k h,Z6.k0k h,Q6.q0p h,Z6.q0p h,Y6.q0p h]
def out1 (b:ByteArray):M×Int×Int:=if bt b 0=1 then outQ b else if bt b 0=3 then outE b else outP b
def outA (b:ByteArray):List M×Int×Int:=
  if 65535<b.size then([],65535,10)else if b.size=0 then([],0,2)else if bt b 0<1∨4<bt b 0 then([],0,4)
  else if(out1 b).2.2=0 then([(out1 b).1],0,0)else([],(out1 b).2.1,(out1 b).2.2)
theorem z0v {b:ByteArray}(h:65535<b.size):outA b=([],65535,10):=by unfold outA;rw[if_pos h]
theorem b0k {b:ByteArray}(h:b.size=0):outA b=([],0,2):=by unfold outA;rw[if_neg (by omega),if_pos h]
theorem n0x {b:ByteArray}(h:¬65535<b.size)(h0:¬b.size=0)(k:bt b 0<1∨4<bt b 0):outA b=([],0,4):=by unfold outA;rw[if_neg h,if_neg h0,if_pos k]
theorem u0a {b:ByteArray}{m:M}{i:Int}(h:¬65535<b.size)(h0:¬b.size=0)(k:¬(bt b 0<1∨4<bt b 0))(o:out1 b=(m,i,0)):outA b=([m],0,0):=by
 unfold outA;rw[if_neg h,if_neg h0,if_neg k,o,if_pos rfl]
theorem u0e {b:ByteArray}{m:M}{i e:Int}(h:¬65535<b.size)(h0:¬b.size=0)(k:¬(bt b 0<1∨4<bt b 0))(o:out1 b=(m,i,e))(he:¬e=0):outA b=([],i,e):=by
 unfold outA;rw[if_neg h,if_neg h0,if_neg k,o,if_neg he]
theorem p0z {b:ByteArray}(h:bt b 0=1):out1 b=outQ b:=by unfold out1;rw[if_pos h]
theorem t0z {b:ByteArray}(h:bt b 0=3):out1 b=outE b:=by unfold out1;rw[if_neg (by omega),if_pos h]
theorem c0v {b:ByteArray}(h:bt b 0=2∨bt b 0=4):out1 b=outP b:=by unfold out1;rw[if_neg (by omega),if_neg (by omega)]
theorem k0p {b:ByteArray}(h:¬bt b 0=0):¬b.size=0:=by
 intro k;apply h
 have:b.data.toList = []:=List.length_eq_zero_iff.1 (by simpa using k)
 unfold bt;rw[this];rfl
theorem u1n {m:M}(h:okA m=true)(hz:(encA m).size≤65535):∃ n,outA (encA m)=([n],0,0)∧M.same m n=true∧n.ll.length≤m.ll.length∧n.sl=m.sl:=by
 rcases ok_cases h with⟨_,h,e⟩|⟨_,h,e⟩|⟨_,h,e⟩
 · rw[e]at hz⊢
   have h0:bt (putQ m) 0=1:=by rw[g0i h];rfl
   obtain⟨h1,h2⟩:=Q6.q0f h
   exact⟨_,u0a (by omega) (k0p (by omega)) (by omega) ((p0z h0).trans h1),h2,Nat.zero_le _,rfl⟩
 · rw[e]at hz⊢;have h0:=Z6.first_of h;obtain⟨h1,h2,h3⟩:=Z6.d0o h
   exact⟨_,u0a (by omega) (k0p (by omega)) (by omega) ((c0v h0).trans (Z6.q0f h)),h3,by rw[h1];exact Nat.zero_le _,h2⟩
 · rw[e]at hz⊢;have h0:=Y6.first_of h;obtain⟨h1,h2,h3⟩:=Y6.d0o h
   exact⟨_,u0a (by omega) (k0p (by omega)) (by omega) ((t0z h0).trans (Y6.q0f h)),h3,by rw[h1];exact Nat.le_refl _,h2⟩
theorem t0y {b:ByteArray}(k:¬(bt b 0<1∨4<bt b 0)):((out1 b).2.2≠0∧0≤(out1 b).2.1∧(out1 b).2.1≤b.size)∨
    ((out1 b).2.2=0∧okA (out1 b).1=true∧encA (out1 b).1=b):=by
 rcases(show bt b 0=1∨(bt b 0=2∨bt b 0=4)∨bt b 0=3 by omega)with h|h|h
 · rw[p0z h]
   rcases Q1.out_cases b with⟨h1,_,h2,h3⟩|⟨_,h1,_⟩
   · exact .inl ⟨h1,h2,h3⟩
   · obtain⟨h2,h3,_⟩:=Q6.i0l h1 h
     exact .inr ⟨h1,by unfold okA;rw[h2];rfl,by rw[d1k h2];exact h3⟩
 · rw[c0v h]
   rcases Z1.out_cases b with⟨h1,_,h2,h3⟩|⟨_,h1,_⟩
   · exact .inl ⟨h1,h2,h3⟩
   · obtain⟨h2,h3,_⟩:=Z6.i0l h1 h
     exact .inr ⟨h1,by unfold okA;rw[h2];simp,by rw[x0z h2];exact h3⟩
 · rw[t0z h]
   rcases Y1.out_cases b with⟨h1,_,h2,h3⟩|⟨_,h1,_⟩
   · exact .inl ⟨h1,h2,h3⟩
   · obtain⟨h2,h3,_⟩:=Y6.i0l h1 h
     exact .inr ⟨h1,by unfold okA;rw[h2];simp,by rw[o1j h2];exact h3⟩
theorem s0p (b:ByteArray):(out1 b).1.ll.length≤255∧(out1 b).1.sl.length≤b.size:=by
 unfold out1;split
 · obtain⟨h1,h2⟩:=Q6.p0i b
   exact⟨by rw[h1];exact Nat.zero_le _,h2⟩
 split
 · exact Y6.p0i b
 · obtain⟨h1,h2⟩:=Z6.p0i b
   exact⟨by rw[h1];exact Nat.zero_le _,h2⟩
theorem out_cases (b:ByteArray):(∃ i e,outA b=([],i,e)∧e≠0∧0≤i∧i≤b.size)∨
    (∃ m,outA b=([m],0,0)∧okA m=true∧encA m=b∧b.size≤65535∧m.ll.length≤255∧m.sl.length≤b.size):=by
 by_cases h:65535<b.size
 · exact .inl ⟨_,_,z0v h,by decide,by decide,by omega⟩
 by_cases h0:b.size=0
 · exact .inl ⟨_,_,b0k h0,by decide,by decide,by omega⟩
 by_cases k:bt b 0<1∨4<bt b 0
 · exact .inl ⟨_,_,n0x h h0 k,by decide,by decide,by omega⟩
 obtain⟨p1,p2⟩:=s0p b;have hc:=t0y k;obtain⟨⟨m,i,e⟩,hq⟩:∃ p,out1 b=p:=⟨_,rfl⟩;rw[hq]at hc p1 p2
 rcases hc with⟨h1,h2,h3⟩|⟨h1,h2,h3⟩
 · exact .inl ⟨i,e,u0e h h0 k hq h1,h1,h2,h3⟩
 · simp only[]at h1;subst h1
   exact .inr ⟨m,u0a h h0 k hq,h2,h3,by omega,p1,p2⟩
def encL (l:List M):ByteArray×Int×Int:=
  match l.findIdx? (fun m=>!okA m)with
  | some i=>(⟨#[]⟩,((i:Nat):Int),1)
  | none=>if l.length=0 then(⟨#[]⟩,0,8)else if 1<l.length then(⟨#[]⟩,1,8)else if 65535<(encA (l.headD M.zero)).size then(⟨#[]⟩,0,10)else(encA (l.headD M.zero),0,0)
def idxA (l:List M):Int:=match l.findIdx? (fun m=>!okA m)with|some i=>((i:Nat):Int)|none=>-1
theorem o0t {l:List M}{k:Nat}(hk:k<l.length)(h:∀ i (hi:i<l.length),i<k→okA l[i]=true)(hn:okA l[k]=false):l.findIdx? (fun m=>!okA m)=some k:=
  List.findIdx?_eq_some_iff_getElem.2 ⟨hk,by rw[hn];rfl,fun j hj=>by rw[h j (by omega) hj];decide⟩
theorem o0i {l:List M}(h:∀ i (hi:i<l.length),okA l[i]=true):l.findIdx? (fun m=>!okA m)=none:=
  List.findIdx?_eq_none_iff.2 fun m hm=>by
    obtain⟨i,hi,rfl⟩:=List.getElem_of_mem hm
    rw[h i hi];rfl
theorem h0h {l:List M}{k:Nat}(hk:k<l.length)(h:∀ i (hi:i<l.length),i<k→okA l[i]=true)(hn:okA l[k]=false):idxA l=((k:Nat):Int):=by unfold idxA;rw[o0t hk h hn]
theorem v0j {l:List M}(h:∀ i (hi:i<l.length),okA l[i]=true):idxA l = -1:=by unfold idxA;rw[o0i h]
theorem g0d {l:List M}{k:Nat}(hk:k<l.length)(h:∀ i (hi:i<l.length),i<k→okA l[i]=true)(hn:okA l[k]=false):encL l=(⟨#[]⟩,((k:Nat):Int),1):=by unfold encL;rw[o0t hk h hn]
theorem q0e {l:List M}(h:l.length=0):encL l=(⟨#[]⟩,0,8):=by
 unfold encL;rw[o0i (fun i hi=>absurd hi (by omega))];simp only[];rw[if_pos h]
theorem x0m {l:List M}(h:∀ i (hi:i<l.length),okA l[i]=true)(h1:1<l.length):encL l=(⟨#[]⟩,1,8):=by
 unfold encL;rw[o0i h];simp only[];rw[if_neg (by omega),if_pos h1]
theorem a1b {m:M}(h:okA m=true):∀ i (hi:i < [m].length),okA [m][i]=true:=fun i hi=>by
  obtain rfl:i=0:=by(simp at hi;exact hi)
  exact h
theorem f0n {m:M}(h:okA m=true)(hz:65535<(encA m).size):encL [m]=(⟨#[]⟩,0,10):=by
 unfold encL;rw[o0i (a1b h)]
 simp only[];rw[if_neg (by simp),if_neg (by simp),if_pos (by exact hz)]
theorem v0k {m:M}(h:okA m=true)(hz:¬65535<(encA m).size):encL [m]=(encA m,0,0):=by
 unfold encL;rw[o0i (a1b h)]
 simp only[];rw[if_neg (by simp),if_neg (by simp),if_neg (by exact hz)]
 rfl
theorem enc_cases (l:List M):(∃ k,∃ (hk:k<l.length),(∀ i (hi:i<l.length),i<k→okA l[i]=true)∧okA l[k]=false)∨
    ((∀ i (hi:i<l.length),okA l[i]=true)∧(l.length=0∨1<l.length∨l.length=1)):=by
 cases hf:l.findIdx? (fun m=>!okA m)with
 | some k=>
  obtain⟨hk,h1,h2⟩:=List.findIdx?_eq_some_iff_getElem.1 hf
  exact .inl ⟨k,hk,fun i hi hik=>by have:=h2 i hik;simpa using this,by simpa using h1⟩
 | none=>
  have:=List.findIdx?_eq_none_iff.1 hf
  exact .inr ⟨fun i hi=>by have:=this _ (List.getElem_mem hi);simpa using this,by omega⟩
end A1
namespace A2
open Ms Box Xv
open Xc (idx)
open All
open Ap (j0c c0h z0a p0b)
open Am A1 Hs
open Go.Proofs.YtllhobicfclheaaGreatDoor.Or (p0a d0k)
open Q1 (okQ outQ)
open Z1 (okP outP)
open Y1 (okE outE)
open Bk (d0a b0a)
def PlL (l l':List M):Prop:=l.length=l'.length∧∀ i (h:i<l.length) (h':i<l'.length),Pl l[i] l'[i]
theorem PlL.nil:PlL [] []:=⟨rfl,fun i h=>absurd h (by simp)⟩
theorem PlL.one {n m:M}(h:Pl n m):PlL [n] [m]:=⟨rfl,fun i h1 h2=>by
  obtain rfl:i=0:=by(simp at h1;exact h1)
  exact h⟩
theorem PlL.refl (l:List M):PlL l l:=⟨rfl,fun i h1 h2=>Pl.refl _⟩
theorem PlL.at_one {l:List M}{m:M}(h:PlL l [m]):∃ n,l = [n]∧Pl n m:=by
 obtain⟨n,rfl⟩:=List.length_eq_one_iff.1 h.1
 exact⟨n,rfl,h.2 0 (by simp) (by simp)⟩
theorem PlL.same {x x' y y':List M}(h:PlL x y)(h':PlL x' y'):sameL x x'=sameL y y':=by
 unfold sameL;rw[decide_eq_decide];constructor
 · rintro⟨h1,h2⟩
   refine⟨by rw[←h.1,←h'.1];exact h1,fun i k1 k2=>?_⟩
   rw[←(h.2 i (by rw[h.1];exact k1) k1).same (h'.2 i (by rw[h'.1];exact k2) k2)]
   exact h2 i _ _
 · rintro⟨h1,h2⟩
   refine⟨by rw[h.1,h'.1];exact h1,fun i k1 k2=>?_⟩
   rw[(h.2 i k1 (by rw[←h.1];exact k1)).same (h'.2 i k2 (by rw[←h'.1];exact k2))]
   exact h2 i _ _
def AnsL (p:List M×Int×Int)(w:World)(e:Ending)(w':World):Prop:=
  ∃ a c l,e = .returned (.tuple #[.slice a l.length c,.int .i64 p.2.1,.int .i64 p.2.2])∧PlL l p.1∧MRow w' a l∧Below w.heap.size w w'
theorem AnsL.no {p:List M×Int×Int}{w w':World}{c d:Int}(h:p=([],c,d))(hb:Below w.heap.size w w'):AnsL p w (.returned (.tuple #[.slice none 0 0,.int .i64 c,.int .i64 d])) w':=by
 subst h;exact⟨none,0,[],rfl,PlL.nil,MRow.nil _ _,hb⟩
theorem row_one {w':World}{g:Nat}{n:M}(h:n.In w')(hc:∀ j u,(n.cells.toList)[j]?=some u→w'.cell? ((⟨g,0,none⟩:Addr).add j)=some u)(hg:g<w'.heap.size):MRow w' (some ⟨g,0,none⟩) [n]:=by
 intro i hi
 obtain rfl:i=0:=by(simp at hi;exact hi)
 refine⟨_,rfl,hg,fun j v hv=>?_,h.d,h.s⟩
 have:=hc j v hv;rw[p0b]at this;rw[p0b,p0b,Nat.zero_mul,Nat.add_zero];exact this
theorem z1n {w:World}{n:M}(h:n.In w):MRow (w.alloc (.cells n.cells 29)) (some ⟨w.heap.size,0,none⟩) [n]:=
  row_one (h.below (balloc (Below.refl _ w) _)) (z0a n w) (by rw[b0a];exact Nat.lt_succ_self _)
theorem AnsL.one {p:List M×Int×Int}{w w':World}{m n:M}(h:p=([m],0,0))(hp:Pl n m)(hn:n.In w')(hb:Below w.heap.size w w') :
    AnsL p w (.returned (.tuple #[.slice (some ⟨w'.heap.size,0,none⟩) 1 1,.int .i64 0,.int .i64 0])) (w'.alloc (.cells n.cells 29)):=by
 subst h;exact⟨_,1,[n],rfl,PlL.one hp,z1n hn,balloc hb _⟩
theorem boxed (w:World)(m:M):Bx (w.alloc (.cells m.cells 29)) w.heap.size m∧Below w.heap.size w (w.alloc (.cells m.cells 29)):=⟨Bx.new w m,balloc (Below.refl _ w) _⟩
theorem l0a (m:M)(w:World)(hm:m.In w)(lb:∀ x∈m.sl,x.1.size≤1099511627776):Calls Tryz.prog 37 #[.agg m.cells] w fun e w'=>e = .returned (.bool (okA m))∧Below w.heap.size w w':=by
 refine' qz40
 have PQ:=Lib.hid (fun V (h:m.In V)=>Q2.l0a m V h lb)
 have PP:=Lib.hid (fun V (h:m.In V)=>Z2.l0a m V h lb)
 have PE:=Lib.hid (fun V (h:m.In V)=>Y2.l0a m V h lb)
 clear lb hm
 have HQ:=Lib.hid (fun(h:m.kind=3)=>i1s h)
 have HP:=Lib.hid (fun(h:m.kind=4∨m.kind=6)=>n1s h)
 have HE:=Lib.hid (fun(h:m.kind=5)=>f1s h)
 have HN:=Lib.hid (fun h3 h4 h5 h6=>m1r (m:=m) h3 h4 h5 h6)
 refine' qz2m;by_cases h3:m.kind=3
 · have HZ:=Lib.hid (HQ.out h3);rw[h3]at c0;clear HQ HP HE HN;refine' qz1p;refine(PQ.out _ HF.out.i).mono ?_;refine' qz3r;refine' qzj;exact⟨g0a HZ.out.symm,HF.out.bel⟩
 by_cases h4:m.kind=4
 · have HZ:=Lib.hid (HP.out (.inl h4));rw[h4]at c0;clear HQ HP HE HN;refine' qz45;refine' qz3r;refine' qzj;exact⟨g0a HZ.out.symm,HF.out.bel⟩
 by_cases h6:m.kind=6
 · have HZ:=Lib.hid (HP.out (.inr h6));rw[h6]at c0;clear HQ HP HE HN;refine' qz45;refine' qz3r;refine' qzj;exact⟨g0a HZ.out.symm,HF.out.bel⟩
 by_cases h5:m.kind=5
 · have HZ:=Lib.hid (HE.out h5);rw[h5]at c0;clear HQ HP HE HN;refine' qz1p;refine(PE.out _ HF.out.i).mono ?_;refine' qz3r;refine' qzj;exact⟨g0a HZ.out.symm,HF.out.bel⟩
 have HZ:=Lib.hid (HN.out h3 h4 h5 h6)
 have e3:(m.kind==3)=false:=by simpa using h3
 have e4:(m.kind==4)=false:=by simpa using h4
 have e5:(m.kind==5)=false:=by simpa using h5
 have e6:(m.kind==6)=false:=by simpa using h6
 have bel:=Lib.hid HF.out.bel;clear HQ HP HE HN PQ PP PE HF;generalize m.kind=k at *;refine' qzj;exact⟨g0a HZ.out.symm,bel.out⟩
theorem l0f (m:M)(w:World)(hm:m.In w)(lb:∀ x∈m.sl,x.1.size≤1099511627776):Calls Tryz.prog 104 #[.agg m.cells] w fun e w'=>e = .returned (.bool (!okA m))∧Below w.heap.size w w':=by
 have hm1:=hm.below (boxed w m).2;refine' qz6l;refine' qz6h;have P1:=Lib.hid (l0a m V hm1 lb);clear hm hm1 lb;refine' qzav;refine' qz4c;clear hb;refine' qzj;exact⟨rfl,bel⟩
theorem w1p (b:ByteArray)(w:World)(k:¬(bt b 0<1∨4<bt b 0))(hs:b.size≤200000):Calls Tryz.prog 103 #[.string b] w (AnsM (out1 b) w):=by
 have i0:=idx b 0 0 rfl (by have:=k0p (b:=b) (by omega);omega)
 rcases(show bt b 0=1∨bt b 0=2∨bt b 0=4∨bt b 0=3 by omega)with h|h|h|h
 · have PG:=Lib.hid (fun V=>Q4.o0h b V hs)
   have HO:AnsM (outQ b) w=AnsM (out1 b) w:=by rw[p0z h]
   rw[h]at i0;rw[←HO];clear HO h k hs;refine' qzo;refine' qz6n;refine' qz3n;refine(PG.out _).mono ?_;intro r w1 hr;refine' qz9f;have HA:=Lib.hid ha;refine' qz5n;exact bodyPost_ret (v := .tuple #[.agg n.cells,.int .i64 (outQ b).2.1,.int .i64 (outQ b).2.2]) (ret3 rfl _ _ w.heap.size n rfl (R1.out.put (m':=n)) (.int .i64 (outQ b).2.1) rfl (.int .i64 (outQ b).2.2) rfl) rfl HA.out
 · have PG:=Lib.hid (fun V=>Z4.o0h b V (.inl h) hs)
   have HO:AnsM (outP b) w=AnsM (out1 b) w:=by rw[c0v (.inl h)]
   rw[h]at i0;rw[←HO];clear HO h k hs;refine' qzo;refine' qz6n;refine' qz3n;refine(PG.out _).mono ?_;intro r w1 hr;refine' qz9f;have HA:=Lib.hid ha;refine' qzas
 · have PG:=Lib.hid (fun V=>Z4.o0h b V (.inr h) hs)
   have HO:AnsM (outP b) w=AnsM (out1 b) w:=by rw[c0v (.inr h)]
   rw[h]at i0;rw[←HO];clear HO h k hs;refine' qzo;refine' qz6n;refine' qz3n;refine(PG.out _).mono ?_;intro r w1 hr;refine' qz9f;have HA:=Lib.hid ha;refine' qzas
 · have PG:=Lib.hid (fun V=>Y4.o0h b V hs)
   have HO:AnsM (outE b) w=AnsM (out1 b) w:=by rw[t0z h]
   rw[h]at i0;rw[←HO];clear HO h k hs;refine' qzo;refine' qz6n;refine' qz3n;refine(PG.out _).mono ?_;intro r w1 hr;refine' qz9f;have HA:=Lib.hid ha;refine' qz5n;exact bodyPost_ret (v := .tuple #[.agg n.cells,.int .i64 (outE b).2.1,.int .i64 (outE b).2.2]) (ret3 rfl _ _ w.heap.size n rfl (R1.out.put (m':=n)) (.int .i64 (outE b).2.1) rfl (.int .i64 (outE b).2.2) rfl) rfl HA.out
theorem v1n (b:ByteArray)(w:World)(h0:¬b.size=0)(k:bt b 0<1∨4<bt b 0):Calls Tryz.prog 103 #[.string b] w fun e w'=>e = .returned (.tuple #[.agg M.zero.cells,.int .i64 0,.int .i64 4])∧Below w.heap.size w w':=by
 have i0:=idx b 0 0 rfl (by omega)
 have e1:(bt b 0==1)=false:=by rw[beq_eq_false_iff_ne];omega
 have e2:(bt b 0==2)=false:=by rw[beq_eq_false_iff_ne];omega
 have e3:(bt b 0==3)=false:=by rw[beq_eq_false_iff_ne];omega
 have e4:(bt b 0==4)=false:=by rw[beq_eq_false_iff_ne];omega
 have d1:¬bt b 0=1:=by omega
 have d2:¬bt b 0=2:=by omega
 have d3:¬bt b 0=3:=by omega
 have d4:¬bt b 0=4:=by omega
 clear k h0;generalize bt b 0=y at *;refine' qzal;generalize w.alloc (.cells M.zero.cells 29)=W at *;refine' qz2d;exact bodyPost_ret (v := .tuple #[.agg M.zero.cells,.int .i64 0,.int .i64 4]) (ret3 rfl _ _ w.heap.size M.zero rfl (R0.out.put (m':=M.zero)) (.int .i64 0) rfl (.int .i64 4) rfl) rfl ⟨rfl,below_setRow bel.out (Nat.le_refl _) _⟩
theorem g1f {s:ByteArray}(h:¬s.size=0):¬s.toList = []:=by
 intro hh;apply h;have:=congrArg List.length hh;rw[ByteArray.toList_eq]at this;simpa using this
theorem y0f {s:ByteArray}(h:s.size=0):s=⟨#[]⟩:=ByteArray.ext (Array.eq_empty_of_size_eq_zero h)
def ckS (b:ByteArray):Int×Int:=if 65535<b.size then(65535,10)else if b.size=0 then(0,2)else(0,0)
theorem x1g (b:ByteArray)(w:World)(hs:b.size≤200000):Calls Tryz.prog 102 #[.string b] w fun e w'=>e = .returned (.tuple #[.int .i64 (ckS b).1,.int .i64 (ckS b).2])∧w=w':=by
 by_cases h:65535<b.size
 · have HZ:Hid (ckS b=(65535,10)):=Lib.hid (by unfold ckS;rw[if_pos h])
   have h1:(65535:Int)<(b.size:Int):=by omega
   clear h;go_in;refine' qz2w;exact⟨Y3.i0g HZ.out,rfl⟩
 have h1:¬(65535:Int)<(b.size:Int):=by omega
 by_cases h0:b.size=0
 · have HZ:Hid (ckS b=(0,2)):=Lib.hid (by unfold ckS;rw[if_neg h,if_pos h0])
   obtain rfl:=y0f h0;clear h h0 h1;go_in;refine' qz2w;exact⟨Y3.i0g HZ.out,rfl⟩
 have HZ:Hid (ckS b=(0,0)):=Lib.hid (by unfold ckS;rw[if_neg h,if_neg h0])
 have f5:=g1f h0
 have f6:(b.toList == [])=false:=by simpa using f5
 have f7:b.toList.isEmpty=false:=by simpa using f5
 clear h h0;go_in;refine' qz2w;exact⟨Y3.i0g HZ.out,rfl⟩
theorem n0c (b:ByteArray)(w:World)(hs:b.size≤200000):Calls Tryz.prog 38 #[.string b] w (AnsL (outA b) w):=by
 have PS:=Lib.hid (fun V=>x1g b V hs)
 by_cases h:65535<b.size
 · have HZ:=Lib.hid (z0v h)
   have h1:(65535:Int)<(b.size:Int):=by omega
   rw[show ckS b=(65535,10) by unfold ckS;rw[if_pos h]]at PS
   clear h hs;refine' qz16;refine(PS.out _).mono ?_;refine' qz2p;refine' qz5w;exact AnsL.no HZ.out (Below.refl _ _)
 have h1:¬(65535:Int)<(b.size:Int):=by omega
 by_cases h0:b.size=0
 · have HZ:=Lib.hid (b0k h0)
   rw[show ckS b=(0,2) by unfold ckS;rw[if_neg h,if_pos h0]]at PS
   have hk0:(b.size:Int)=0:=by omega
   clear h hs h0 hk0;refine' qz16;refine(PS.out _).mono ?_;refine' qz2p;refine' qz5w;exact AnsL.no HZ.out (Below.refl _ _)
 rw[show ckS b=(0,0) by unfold ckS;rw[if_neg h,if_neg h0]]at PS
 by_cases k:bt b 0<1∨4<bt b 0
 · have HZ:=Lib.hid (n0x h h0 k)
   have PG:=Lib.hid (fun V=>v1n b V h0 k)
   clear h hs h0 k;refine' qz16;refine(PS.out _).mono ?_;refine' qz2p;refine' qz7a;refine' qz75
   go_wp2_with (first|(refine e0a (b:=w1.heap.size) (m:=M.zero) (m':=M.zero) rfl _ _ rfl rfl rfl (Bx.new w1 M.zero) ?_))
   go_ret3;exact AnsL.no HZ.out (below_setRow (balloc hb _) hb.size _)
 have PG:=Lib.hid (fun V=>w1p b V k hs)
 obtain⟨hl1,hl2⟩:=s0p b
 have HL:=Lib.hid (show(out1 b).1.ll.length≤1048576∧(out1 b).1.sl.length≤1048576 from⟨by omega,by omega⟩)
 have HY:=Lib.hid (fun m i=>u0a (b:=b) (m:=m) (i:=i) h h0 k)
 have HN:=Lib.hid (fun m i e=>u0e (b:=b) (m:=m) (i:=i) (e:=e) h h0 k)
 obtain⟨⟨m,i,x⟩,hq⟩:∃ p,out1 b=p:=⟨_,rfl⟩;rw[hq]at PG HL;by_cases hx:x=0;rotate_left
 · have HZ:=Lib.hid (HN.out m i x hq hx)
   have e1:(x==0)=false:=by simpa using hx
   have e2:(x != 0)=true:=by rw[bne,e1];rfl
   clear h hs h0 k hl1 hl2 HY HN hq hx;refine' qz16;refine(PS.out _).mono ?_;refine' qz2p;refine' qz7a;intro r w1 hr;obtain⟨n,rfl,hi,hp,hb⟩:=hr.at HL.out.1 HL.out.2;clear hr PG
   go_wp2_with (first|(refine e0a (b:=w1.heap.size) (m:=M.zero) (m':=n) rfl _ _ rfl rfl rfl (Bx.new w1 M.zero) ?_))
   go_ret3;exact AnsL.no HZ.out (below_setRow (balloc hb _) hb.size _)
 subst hx;have HZ:=Lib.hid (HY.out m i hq);clear h hs h0 k hl1 hl2 HY HN hq;refine' qz16;refine(PS.out _).mono ?_;refine' qz2p;refine' qz7a;intro r w1 hr;obtain⟨n,rfl,hi,hp,hb⟩:=hr.at HL.out.1 HL.out.2;clear hr PG
 go_upto_region 5 with(refine e0a (b:=w1.heap.size) (m:=M.zero) (m':=n) rfl _ _ rfl rfl rfl (Bx.new w1 M.zero) ?_)
 refine' qz34;have I2:=Lib.hid (hi.below (balloc (Below.refl _ w1) (.cells n.cells 29)));have HB:=Lib.hid (balloc hb (.cells n.cells 29));have X2:=Lib.hid (Bx.new w1 n);have H2:=Lib.hid hp;clear hi hp hb;generalize w1.alloc (.cells n.cells 29)=V2 at *;generalize w1.heap.size=g2 at *
 go_wp2_with (first|(refine j0a (b:=g2) (m:=n) rfl _ rfl rfl X2.out ?_)|(refine j0c rfl _ rfl (m:=n) rfl ?_))
 go_ret3;exact AnsL.one HZ.out H2.out I2.out HB.out
end A2
namespace A3
open Ms Box Xv
open Cnt (int_eq)
open All Am A1 A2 Hs
open Y1 (putE)
def Sm (m:M):Prop:=m.ll.length≤1048576∧m.sl.length≤2000∧∀ x∈m.sl,x.1.size≤1099511627776
theorem w1s {m:M}(h:okA m=true)(h1:m.ll.length≤255)(h2:m.sl.length≤2000):Sm m:=⟨by omega,h2,fun x hx=>by
  have:=(r1a (r1b h) x hx).2.2
  omega⟩
theorem Sm.short {m:M}(h:Sm m):Short m:=⟨h.1,by have:=h.2.1;omega⟩
theorem x0j {w:World}{a:Option Addr}{l:List M}(h:MRow w a l)(hs:∀ m∈l,Sm m){k:Nat}(hk:k<l.length):l[k].In w:=by
 obtain⟨p,_,_,_,hd,hss⟩:=h k hk;have:=(hs _ (List.getElem_mem hk)).short;exact⟨hd,hss,this.1,this.2⟩
theorem a0k {m:M}(hs:m.sl.length≤2000):(encA m).size≤600000:=by
 cases h:okA m
 · have:encA m=putE m:=by
    unfold okA at h;rw[Bool.or_eq_false_iff,Bool.or_eq_false_iff]at h;unfold encA
    rw[h.1,if_neg (by decide),h.2.1,if_neg (by decide)]
   rw[this,Y1.w1a (by unfold okA at h;rw[Bool.or_eq_false_iff,Bool.or_eq_false_iff]at h;exact h.2.2)]
   decide
 · have hb:=z0g (r1b h)
   rcases ok_cases h with⟨_,h,e⟩|⟨_,h,e⟩|⟨_,h,e⟩
   · obtain⟨hk,_,hn,ha,ho,hx⟩:=(Q1.x0a m).1 h;obtain⟨f0,f1,n1,n2,n3,n4⟩:=(Q1.a0d m).1 hn;rw[e,Q1.g0i h]
     show(Q1.encQ m).length≤_
     unfold Q1.encQ Q1.hd;simp only[List.length_append,List.length_cons,Nu.s0a n2,Nu.s0a n3,Nu.s0a n4,Q1.c0a,ha,ho,b0g];omega
   · have h2:=Z1.o0k h;rw[e,Z1.y0i h]
     show(Z1.encP m).length≤_
     unfold Z1.encP;rw[List.length_append,b0g];omega
   · have:=((Y1.a0d m).1 ((Y1.x0a m).1 h).nums).n1;rw[e,Y1.f1k h];omega
theorem c0b (m:M)(w:World)(hm:m.In w)(hs:Sm m)(hok:okA m=true):Calls Tryz.prog 106 #[.agg m.cells] w fun e w'=>e = .returned (.string (encA m))∧Below w.heap.size w w':=by
 refine' qz40
 rcases ok_cases hok with⟨h,ho,he⟩|⟨h,ho,he⟩|⟨h,ho,he⟩
 · have PP:=Lib.hid (fun V (h:m.In V)=>Q5.c0b m V h hs.2.1 hs.2.2)
   rw[←he]at PP;clear ho hs hok hm he;generalize encA m=y at *;refine' qz2m;rw[h]at c0;refine' qz45;refine' qz3r;clear c0 hb;refine' qzj;exact⟨rfl,HF.out.bel⟩
 · rcases h with h|h
   · have PP:=Lib.hid (fun V (h:m.In V)=>Z5.c0b m V h hs.2.1 hs.2.2)
     rw[←he]at PP;clear ho hs hok hm he;generalize encA m=y at *;refine' qz2m;rw[h]at c0;refine' qz45;refine' qz3r;clear c0 hb;refine' qzj;exact⟨rfl,HF.out.bel⟩
   · have PP:=Lib.hid (fun V (h:m.In V)=>Z5.c0b m V h hs.2.1 hs.2.2)
     rw[←he]at PP;clear ho hs hok hm he;generalize encA m=y at *;refine' qz2m;rw[h]at c0;refine' qz45;refine' qz3r;clear c0 hb;refine' qzj;exact⟨rfl,HF.out.bel⟩
 · have PP:=Lib.hid (fun V (h:m.In V)=>Y5.c0b m V h hs.2.1 hs.2.2)
   rw[←he]at PP;clear ho hs hok hm he;generalize encA m=y at *;refine' qz2m;rw[h]at c0;refine' qz45;refine' qz3r;clear c0 hb;refine' qzj;exact⟨rfl,HF.out.bel⟩
theorem e0i (a:Option Addr)(c:Nat)(l:List M)(w:World)(hl:MRow w a l)(hs:∀ m∈l,Sm m)(hn:l.length≤1048576) :
    Calls Tryz.prog 84 #[.slice a l.length c,.func (.func 104) #[] #[]] w fun e w'=>e = .returned (.int .i64 (idxA l))∧Below w.heap.size w w':=by
 go_in;go_wp2
 go_loopw [8] (fun i wr=>∃ k:Nat,k≤l.length∧i = .int .i64 k∧Hid (∀ i (hi:i<l.length),i<k→okA l[i]=true)∧Hid (Below w.heap.size w wr)) (fun i _=>l.length - (intOf i).toNat)
 case atStart=>exact⟨0,Nat.zero_le _,rfl,Lib.hid (fun i _ hi=>absurd hi (by omega)),Lib.hid (Below.refl _ _)⟩
 case round=>
  obtain⟨k,hk,rfl,HT,HB⟩:=hrel;by_cases hlt:k<l.length
  · obtain⟨p,rfl,_,hc,_,_⟩:=(hl.below HB.out) k hlt;have P:=Lib.hid (l0f l[k] wr (x0j (hl.below HB.out) hs hlt) (hs _ (List.getElem_mem hlt)).2.2)
    have HI:=Lib.hid (fun(h:okA l[k]=false)=>h0h hlt HT.out h)
    have HJ:=Lib.hid (fun(h:okA l[k]=true)=>show ∀ i (hi:i<l.length),i<k+1→okA l[i]=true from fun i h1 hi=>by
     by_cases hik:i<k
     ·
      exact HT.out i h1 hik
     ·
      obtain rfl:i=k:=by omega
      exact h)
    have HC:=Lib.hid hc;clear hl hc hs HT;refine' qz11;generalize okA u=x at *;cases x
    · have HZ:=Lib.hid (HI.out rfl);clear HI HJ;refine' qzz;refine' qz10;refine' qzj;exact⟨int_eq HZ.out.symm,bcall HB.out hb1⟩
    · have HZ:=Lib.hid (HJ.out rfl);clear HI HJ;refine' qzz;refine' qz10;have HB1:=Lib.hid (bcall HB.out hb1);clear hb1;go_wp2;go_roundw
      case rel=>exact⟨k+1,hlt,by go_num,HZ,HB1⟩
      case measure=>simp[intOf];omega
  · refine' qz12
    have HZ:=Lib.hid (v0j (l:=l) (fun i hi=>HT.out i hi hi))
    refine' qzj;exact⟨int_eq HZ.out.symm,HB.out⟩
def ckC (n:Nat):Int×Int:=if n=0 then(0,8)else if 1<n then(1,8)else(0,0)
theorem y0c (a:Option Addr)(n c:Nat)(w:World)(hn:n≤1048576):Calls Tryz.prog 105 #[.slice a n c] w fun e w'=>e = .returned (.tuple #[.int .i64 (ckC n).1,.int .i64 (ckC n).2])∧w=w':=by
 by_cases h0:n=0
 · have HZ:Hid (ckC n=(0,8)):=Lib.hid (by unfold ckC;rw[if_pos h0])
   have e0:((n:Int)==0)=true:=by rw[beq_iff_eq];omega
   clear h0;go_in;refine' qz2w;exact⟨Y3.i0g HZ.out,rfl⟩
 have e0:((n:Int)==0)=false:=by rw[beq_eq_false_iff_ne];omega
 by_cases h1:1<n
 · have HZ:Hid (ckC n=(1,8)):=Lib.hid (by unfold ckC;rw[if_neg h0,if_pos h1])
   have e1:(1:Int)<(n:Int):=by omega
   clear h0 h1;go_in;refine' qz2w;exact⟨Y3.i0g HZ.out,rfl⟩
 have HZ:Hid (ckC n=(0,0)):=Lib.hid (by unfold ckC;rw[if_neg h0,if_neg h1])
 have e1:¬(1:Int)<(n:Int):=by omega
 clear h0 h1;go_in;refine' qz2w;exact⟨Y3.i0g HZ.out,rfl⟩
def AnsE (p:ByteArray×Int×Int)(w:World)(e:Ending)(w':World):Prop:=e = .returned (.tuple #[.string p.1,.int .i64 p.2.1,.int .i64 p.2.2])∧Below w.heap.size w w'
theorem AnsE.of {p:ByteArray×Int×Int}{w w':World}{b:ByteArray}{x y:Int}(h:p=(b,x,y))(hb:Below w.heap.size w w'):AnsE p w (.returned (.tuple #[.string b,.int .i64 x,.int .i64 y])) w':=by
 subst h;exact⟨rfl,hb⟩
theorem p0c (a:Option Addr)(c:Nat)(l:List M)(w:World)(hl:MRow w a l)(hs:∀ m∈l,Sm m)(hn:l.length≤1000) :
    Calls Tryz.prog 39 #[.slice a l.length c] w (AnsE (encL l) w):=by
 have P1:=Lib.hid (e0i a c l w hl hs (by omega))
 rcases enc_cases l with⟨k,hk,h1,h2⟩|⟨hw,h0|h0|h0⟩
 · have HZ:=Lib.hid (g0d hk h1 h2);have hx:=h0h hk h1 h2;rw[hx]at P1;clear hx hk h1 h2 hl hs;refine' qz16;refine' qz78;refine' qzbc
 · have HZ:=Lib.hid (q0e h0);refine' qzb4
   have P2:=Lib.hid (fun V=>y0c a l.length c V (by omega))
   rw[show ckC l.length=(0,8) by unfold ckC;rw[if_pos h0]]at P2
   clear hx h0 hw hl hs;refine' qz16;refine' qz78;refine' qz7c;refine' qzbc
 · have HZ:=Lib.hid (x0m hw h0);refine' qzb4
   have P2:=Lib.hid (fun V=>y0c a l.length c V (by omega))
   rw[show ckC l.length=(1,8) by unfold ckC;rw[if_neg (by omega),if_pos h0]]at P2
   clear hx h0 hw hl hs;refine' qz16;refine' qz78;refine' qz7c;refine' qzbc
 · refine' qzb4
   have P2:=Lib.hid (fun V=>y0c a l.length c V (by omega))
   rw[show ckC l.length=(0,0) by unfold ckC;rw[if_neg (by omega),if_neg (by omega)]]at P2
   obtain⟨m,rfl⟩:=List.length_eq_one_iff.1 h0
   have hok:okA m=true:=hw 0 (by simp)
   have hsm:=hs m (by simp)
   refine' qzd6
   have HIn:=Lib.hid (fun(W:World) (h:Below w.heap.size w W)=>show m.In W from x0j (hl.below h) hs (k:=0) (by simp))
   have PP:=Lib.hid (fun V (h:m.In V)=>c0b m V h hsm hok)
   have HY:=Lib.hid (fun h=>f0n hok h)
   have HN:=Lib.hid (fun h=>v0k hok h)
   have hmost:(encA m).size≤600000:=a0k hsm.2.1
   obtain⟨p,rfl,_,_,_,_⟩:=hl 0 (by simp)
   have HC:=Lib.hid (fun(W:World) (h:Below w.heap.size w W)=>show ∀ j v,(m.cells.toList)[j]?=some v→W.cell? (p.add j)=some v by
    obtain⟨p2,hp2,_,hc,_,_⟩:=hl.below h 0 (by simp)
    obtain rfl:p=p2:=by simpa using hp2
    intro j v hv;have:=hc j v hv
    rw[Nat.zero_mul,show p.add 0=p by cases p;rfl]at this
    exact this)
   have ix0:∀ W,(Instr.indexAt 22 (.slice (some p) 1 c) (.int .i64 0)).run Tryz.prog W = .ok (.pointer (some p)) W:=fun W=>by
    have:=indexM p 1 c 0 (by decide) W
    rw[Nat.zero_mul,show p.add 0=p by cases p;rfl]at this
    exact this
   clear hx h0 hw hl hs hsm hok hn;change Calls Tryz.prog 39 #[.slice (some p) 1 c] w (AnsE (encL [m]) w)
   have P1:=Lib.hid (show Calls Tryz.prog 84 #[.slice (some p) 1 c,.func (.func 104) #[] #[]] w fun e w'=>e = .returned (.int .i64 (-1))∧Below w.heap.size w w' from P1.out)
   have P2:=Lib.hid (fun V=>show Calls Tryz.prog 105 #[.slice (some p) 1 c] V fun e w'=>e = .returned (.tuple #[.int .i64 0,.int .i64 0])∧V=w' from P2.out V)
   generalize encA m=y at *;refine' qz16;refine' qz78;refine' qz7c
   go_wp2_with (first|(refine k0d (m:=m) rfl _ rfl rfl (HC.out _ hb) ?_))
   refine(PP.out _ (HIn.out _ hb)).mono ?_;rintro e w2 ⟨rfl,hb2⟩;have HB:=Lib.hid (bcall hb hb2);clear hb hb2 HMr HIn HC PP P1 P2 ix0;by_cases hz:65535<y.size
   · have HZ:=Lib.hid (HY.out hz)
     have hz1:(65535:Int)<(y.size:Int):=by omega
     refine' qz5w;exact AnsE.of HZ.out HB.out
   · have HZ:=Lib.hid (HN.out hz)
     have hz1:¬(65535:Int)<(y.size:Int):=by omega
     refine' qz5w;exact AnsE.of HZ.out HB.out
end A3
end Go.Proofs.YtllhobicfclheaaGreatDoor
