/- SwapAugments, walked: it answers true (written by gen_vaug.py). -/
import Derived.Test.YteiejkhdonmcdaaGreatDoorVFix
import Derived.Test.YteiejkhdonmcdaaGreatDoorZH
import Derived.Test.YteiejkhdonmcdaaGreatDoorZR
import Derived.Test.YteiejkhdonmcdaaGreatDoorZS
import Derived.Test.YteiejkhdonmcdaaGreatDoorX0A
import Derived.Test.YteiejkhdonmcdaaGreatDoorX0B
set_option maxHeartbeats 16000000
set_option maxRecDepth 100000
open Go.Lib (hid)
open Nat (le_refl)
namespace Go.Proofs.YteiejkhdonmcdaaGreatDoor
open Go Go.RowKit
namespace Wp
theorem wa_1 (E:Nat→Addr) (a:Mat) (B:Value) (b:Mat) (C:Value) (z:Value) (s:List Int) (w:World) (q:MatV w w.heap.size B a) (x:Lim a) (r:MatV w w.heap.size C b) (y:Lim b) (p:Row w w.heap.size z s) (u:Env E w) (v:fewB 9 a 8=false):Calls Tryz.prog 4 #[B,C,z] w (Truly w):=by
 have Hfa:=hid v;clear v;have Hla:=hid x;have N:=hid y;obtain ⟨R,P,K,H,F⟩:=q.open;obtain ⟨S,Q,L,I,G⟩:=r.open;obtain ⟨g,cl,rfl,_⟩:=H;obtain ⟨d,k,rfl,_⟩:=F;obtain ⟨j,o,rfl,_⟩:=I;obtain ⟨h,m,rfl,_⟩:=G;obtain ⟨M,O,J,D,_⟩:=id p;subst K L J;obtain ⟨c,hW2⟩:∃ c,c=(w.alloc (.cells #[.int .i64 a.t,.int .i64 a.n,.int .i64 a.a,.int .i64 a.b,.slice g a.l.length cl,.slice d a.i.length k] 25)).alloc (.cells #[.int .i64 b.t,.int .i64 b.n,.int .i64 b.a,.int .i64 b.b,.slice j b.l.length o,.slice h b.i.length m] 25):=⟨_,rfl⟩;have HW2:=hid hW2;have hb2:Below w.heap.size w c:=by rw [hW2];exact ((Below.refl _ w).alloc (le_refl _) _).alloc j39_ _
 have Hka:Hid (Blk c w.heap.size 25 #[.int .i64 a.t,.int .i64 a.n,.int .i64 a.a,.int .i64 a.b,.slice g a.l.length cl,.slice d a.i.length k]):=hid y41_;have Hkb:Hid (Blk c (w.heap.size+1) 25 #[.int .i64 b.t,.int .i64 b.n,.int .i64 b.a,.int .i64 b.b,.slice j b.l.length o,.slice h b.i.length m]):=hid (by
  rw [hW2];have:=Blk.new (w.alloc (.cells #[.int .i64 a.t,.int .i64 a.n,.int .i64 a.a,.int .i64 a.b,.slice g a.l.length cl,.slice d a.i.length k] 25)) 25 #[.int .i64 b.t,.int .i64 b.n,.int .i64 b.a,.int .i64 b.b,.slice j b.l.length o,.slice h b.i.length m];simpa using this)
 have Hb0:=hid hb2;have HVa:=hid (q.up hb2);have HVb:=hid (r.up hb2);have HW:=hid (p.up hb2);have HE:=hid (u.up hb2);clear q r x y u p D hW2 hb2
 go_enter Tryz.func4,Tryz.ntmps4
 exact y1_
theorem wa_2 (E:Nat→Addr) (a:Mat) (C:Value) (b:Mat) (D:Value) (B:Value) (s:List Int) (w:World) (q:MatV w w.heap.size C a) (y:Lim a) (r:MatV w w.heap.size D b) (z:Lim b) (p:Row w w.heap.size B s) (u:Env E w) (v:fewB 9 a 8=true) (x:fewB 9 b 8=false):Calls Tryz.prog 4 #[C,D,B] w (Truly w):=by
 have Hfa:=hid v;have Hfb:=hid x;clear v x;have Hla:=hid y;have Hlb:=hid z;obtain ⟨R,P,L,I,G⟩:=q.open;obtain ⟨S,Q,M,J,H⟩:=r.open;obtain ⟨g,cl,rfl,_⟩:=I;obtain ⟨d,k,rfl,_⟩:=G;obtain ⟨j,o,rfl,_⟩:=J;obtain ⟨h,m,rfl,_⟩:=H;obtain ⟨N,O,K,F,_⟩:=id p;subst L M K;obtain ⟨c,hW2⟩:∃ c,c=(w.alloc (.cells #[.int .i64 a.t,.int .i64 a.n,.int .i64 a.a,.int .i64 a.b,.slice g a.l.length cl,.slice d a.i.length k] 25)).alloc (.cells #[.int .i64 b.t,.int .i64 b.n,.int .i64 b.a,.int .i64 b.b,.slice j b.l.length o,.slice h b.i.length m] 25):=⟨_,rfl⟩;have HW2:=hid hW2;have hb2:Below w.heap.size w c:=by rw [hW2];exact ((Below.refl _ w).alloc (le_refl _) _).alloc j39_ _
 have Hka:Hid (Blk c w.heap.size 25 #[.int .i64 a.t,.int .i64 a.n,.int .i64 a.a,.int .i64 a.b,.slice g a.l.length cl,.slice d a.i.length k]):=hid y41_;have Hkb:Hid (Blk c (w.heap.size+1) 25 #[.int .i64 b.t,.int .i64 b.n,.int .i64 b.a,.int .i64 b.b,.slice j b.l.length o,.slice h b.i.length m]):=hid (by
  rw [hW2];have:=Blk.new (w.alloc (.cells #[.int .i64 a.t,.int .i64 a.n,.int .i64 a.a,.int .i64 a.b,.slice g a.l.length cl,.slice d a.i.length k] 25)) 25 #[.int .i64 b.t,.int .i64 b.n,.int .i64 b.a,.int .i64 b.b,.slice j b.l.length o,.slice h b.i.length m];simpa using this)
 have Hb0:=hid hb2;have HVa:=hid (q.up hb2);have HVb:=hid (r.up hb2);have HW:=hid (p.up hb2);have HE:=hid (u.up hb2);clear q r y z u p F hW2 hb2
 go_enter Tryz.func4,Tryz.ntmps4
 exact j0_
theorem wa_3 (E:Nat→Addr) (a:Mat) (D:Value) (b:Mat) (F:Value) (C:Value) (s:List Int) (w:World) (q:MatV w w.heap.size D a) (y:Lim a) (r:MatV w w.heap.size F b) (z:Lim b) (p:Row w w.heap.size C s) (u:Env E w) (v:fewB 9 a 8=true) (x:fewB 9 b 8=true) (B:mayS a b s=false):Calls Tryz.prog 4 #[D,F,C] w (Truly w):=by
 have Hfa:=hid v;have Hfb:=hid x;have Hm:=hid B;clear v x B;have Hla:=hid y;have Hlb:=hid z;obtain ⟨S,Q,M,J,H⟩:=q.open;obtain ⟨T,R,N,K,I⟩:=r.open;obtain ⟨g,cl,rfl,_⟩:=J;obtain ⟨d,k,rfl,_⟩:=H;obtain ⟨j,o,rfl,_⟩:=K;obtain ⟨h,m,rfl,_⟩:=I;obtain ⟨O,P,L,G,_⟩:=id p;subst M N L;obtain ⟨c,hW2⟩:∃ c,c=(w.alloc (.cells #[.int .i64 a.t,.int .i64 a.n,.int .i64 a.a,.int .i64 a.b,.slice g a.l.length cl,.slice d a.i.length k] 25)).alloc (.cells #[.int .i64 b.t,.int .i64 b.n,.int .i64 b.a,.int .i64 b.b,.slice j b.l.length o,.slice h b.i.length m] 25):=⟨_,rfl⟩;have HW2:=hid hW2;have hb2:Below w.heap.size w c:=by rw [hW2];exact ((Below.refl _ w).alloc (le_refl _) _).alloc j39_ _
 have Hka:Hid (Blk c w.heap.size 25 #[.int .i64 a.t,.int .i64 a.n,.int .i64 a.a,.int .i64 a.b,.slice g a.l.length cl,.slice d a.i.length k]):=hid y41_;have Hkb:Hid (Blk c (w.heap.size+1) 25 #[.int .i64 b.t,.int .i64 b.n,.int .i64 b.a,.int .i64 b.b,.slice j b.l.length o,.slice h b.i.length m]):=hid (by
  rw [hW2];have:=Blk.new (w.alloc (.cells #[.int .i64 a.t,.int .i64 a.n,.int .i64 a.a,.int .i64 a.b,.slice g a.l.length cl,.slice d a.i.length k] 25)) 25 #[.int .i64 b.t,.int .i64 b.n,.int .i64 b.a,.int .i64 b.b,.slice j b.l.length o,.slice h b.i.length m];simpa using this)
 have Hb0:=hid hb2;have HVa:=hid (q.up hb2);have HVb:=hid (r.up hb2);have HW:=hid (p.up hb2);have HE:=hid (u.up hb2);clear q r y z u p G hW2 hb2
 go_enter Tryz.func4,Tryz.ntmps4
 exact x1_
theorem Vk3 (E:Nat→Addr) (a:Mat) (va:Value) (b:Mat) (vb:Value) (sw:Value) (s:List Int) (w:World) (xa:MatV w w.heap.size va a) (xi:Lim a) (xb:MatV w w.heap.size vb b) (xj:Lim b) (x9:Row w w.heap.size sw s) (hE:Env E w) (x6:fewB 9 a 8=true) (x7:fewB 9 b 8=true) (hC:Common a b s):Calls Tryz.prog 4 #[va,vb,sw] w (Truly w):=by
 have hn64:=hC.n64;have hS:=hC.set;have y2:=Y4_ hS;have xh:=(mayI_iff.1 (J5_ hC.ia)).1;have hnn:(nN a:Int)=a.n:=(Z7_ xh).1;have hd:=Zr8 (b:=b) (s:=s) hn64;have x0:PtsP (adjG a b s).length (addG a s):=by rw [A6_];exact A9_ hn64
 have x2:PtsP (adjG a b s).length (addG b s):=q24_;have xv:∃ l r,Xh6 (adjG a b s) (addG a s) (addG b s) l r∧(r=true→(turnL s l).length=s.length+1∧indT a (turnL s l)=true∧indT b (turnL s l)=true):=by
  rcases Zr9 hC with ⟨n,x,l,hg,h1,h2,h3,_⟩ | xu
  ·exact ⟨x :: l,true,.inl ⟨rfl,n,hg⟩,fun _=>⟨h1,h2,h3⟩⟩
  ·exact ⟨[],false,.inr ⟨rfl,rfl,xu⟩,fun h=>by cases h⟩
 obtain ⟨l,r,Y,hr⟩:=xv;have xt:=Zm4 hd x0 Y;rw [A6_] at xt;obtain ⟨L,hL⟩:∃ L,adjG a b s=L:=⟨_,rfl⟩;obtain ⟨FA,hFA⟩:∃ F,addG a s=F:=⟨_,rfl⟩;obtain ⟨FB,hFB⟩:∃ F,addG b s=F:=⟨_,rfl⟩;have hLl:L.length=nN a:=z49_;have xz:((L.length:Int) != a.n)=false:=z48_;rw [hL] at hd x0 x2 Y;rw [hFA] at x0 Y;rw [hFB] at x2 Y;have HP:Hid (∀ (v vf vt:Value) (W:World),Rows2 W W.heap.size v L→Row W W.heap.size vf FA→Row W W.heap.size vt FB→Calls Tryz.prog 25 #[v,vf,vt] W fun e w'=>∃ u:Value,e=.returned (.tuple #[u,.bool r])∧Row w' w'.heap.size u l∧Below W.heap.size W w'):=hid fun v vf vt W h1 h2 h3=>Xz3 L FA FB l r hd x0 x2 Y v vf vt W h1 h2 h3;have xl:Hid (digB L=true):=hid (Za1 hd);have Hr:=hid hr;have Hsa:=hid (V0_ x6);have Hsb:=hid (V0_ x7);have HG:Hid (∀ (va vb sv:Value) (W:World),MatV W W.heap.size va a→MatV W W.heap.size vb b→Row W W.heap.size sv s→Env E W→Calls Tryz.prog 16 #[va,vb,sv] W (D5_ W L FA FB 0)):=hid fun va vb sv W h1 h2 h3 h4=>z25_;have Hm:Hid (mayS a b s=true):=hid (mayS_iff.2 hC);have x3:=hid x6;have x4:=hid x7;have y1:(s.length:Int)≤64:=q39_;clear x6 x7 hC hS xh hnn hd x0 x2 Y hr hL hFA hFB hLl;have xm:=hid xi;have xn:=hid xj;obtain ⟨l1,i1,xx,xr,xp⟩:=xa.open;obtain ⟨l2,i2,xy,xs,xq⟩:=xb.open;obtain ⟨Al,cl,rfl,_⟩:=xr;obtain ⟨Ai,ci,rfl,_⟩:=xp;obtain ⟨Bl,dl,rfl,_⟩:=xs;obtain ⟨Bi,di,rfl,_⟩:=xq;obtain ⟨Aw,cw,xw,xo,_⟩:=id x9;subst xx xy xw;obtain ⟨Z,hW2⟩:∃ Z,Z=(w.alloc (.cells #[.int .i64 a.t,.int .i64 a.n,.int .i64 a.a,.int .i64 a.b,.slice Al a.l.length cl,.slice Ai a.i.length ci] 25)).alloc (.cells #[.int .i64 b.t,.int .i64 b.n,.int .i64 b.a,.int .i64 b.b,.slice Bl b.l.length dl,.slice Bi b.i.length di] 25):=⟨_,rfl⟩;have xd:=hid hW2;have p:Below w.heap.size w Z:=by rw [hW2];exact ((Below.refl _ w).alloc (le_refl _) _).alloc j39_ _
 have c:Hid (Blk Z w.heap.size 25 #[.int .i64 a.t,.int .i64 a.n,.int .i64 a.a,.int .i64 a.b,.slice Al a.l.length cl,.slice Ai a.i.length ci]):=hid y41_;have d:Hid (Blk Z (w.heap.size+1) 25 #[.int .i64 b.t,.int .i64 b.n,.int .i64 b.a,.int .i64 b.b,.slice Bl b.l.length dl,.slice Bi b.i.length di]):=hid (by
  rw [hW2];have:=Blk.new (w.alloc (.cells #[.int .i64 a.t,.int .i64 a.n,.int .i64 a.a,.int .i64 a.b,.slice Al a.l.length cl,.slice Ai a.i.length ci] 25)) 25 #[.int .i64 b.t,.int .i64 b.n,.int .i64 b.a,.int .i64 b.b,.slice Bl b.l.length dl,.slice Bi b.i.length di];simpa using this)
 have Hb0:=hid p;have g:=hid (xa.up p);have j:=hid (xb.up p);have k:=hid (x9.up p);have o:=hid (hE.up p);clear xa xb xi xj hE x9 xo hW2 p
 go_enter Tryz.func4,Tryz.ntmps4
 go_wp2_with fail
 rw [← xd.out];refine (Y0_ E _ o.out).mono ?_;rintro e w1 ⟨rfl,I⟩;clear xd;replace o:=hid (o.out.up I);replace g:=hid (g.out.up I);replace j:=hid (j.out.up I);replace k:=hid (k.out.up I);replace c:=hid (c.out.below I c.out.lt);replace d:=hid (d.out.below I d.out.lt);replace Hb0:=hid (Z0_ Hb0.out (le_refl _) I);clear I;have y:=c.out.cell 0;have z:=c.out.cell 1;have B:=c.out.cell 2;have C:=c.out.cell 3;have D:=c.out.cell 4;have G:=c.out.cell 5
 go_wp2_with fail
 refine (X6_ a _ 8 _ g.out xm.out).mono ?_;rintro e w2 ⟨rfl,p⟩;rw [x3.out];clear y z B C D G;replace o:=hid (o.out.up p);replace g:=hid (g.out.up p);replace j:=hid (j.out.up p);replace k:=hid (k.out.up p);replace c:=hid (c.out.below p c.out.lt);replace d:=hid (d.out.below p d.out.lt);replace Hb0:=hid (Z0_ Hb0.out (le_refl _) p);clear p;have Q:=d.out.cell 0;have R:=d.out.cell 1;have S:=d.out.cell 2;have U:=d.out.cell 3;have V:=d.out.cell 4;have X:=d.out.cell 5
 go_wp2_with fail
 refine (X6_ b _ 8 _ j.out xn.out).mono ?_;rintro e w3 ⟨rfl,K⟩;rw [x4.out];clear Q R S U V X;replace o:=hid (o.out.up K);replace g:=hid (g.out.up K);replace j:=hid (j.out.up K);replace k:=hid (k.out.up K);replace c:=hid (c.out.below K c.out.lt);replace d:=hid (d.out.below K d.out.lt);replace Hb0:=hid (Z0_ Hb0.out (le_refl _) K);clear K;have y:=c.out.cell 0;have z:=c.out.cell 1;have B:=c.out.cell 2;have C:=c.out.cell 3;have D:=c.out.cell 4;have G:=c.out.cell 5;have Q:=d.out.cell 0;have R:=d.out.cell 1;have S:=d.out.cell 2;have U:=d.out.cell 3;have V:=d.out.cell 4;have X:=d.out.cell 5
 go_wp2_with fail
 refine (C5_ a b _ _ _ s _ g.out j.out (V0_ x3.out) (V0_ x4.out) k.out).mono ?_;rintro e w4 ⟨rfl,M⟩;rw [Hm.out];clear y z B C D G Q R S U V X;replace o:=hid (o.out.up M);replace g:=hid (g.out.up M);replace j:=hid (j.out.up M);replace k:=hid (k.out.up M);replace c:=hid (c.out.below M c.out.lt);replace d:=hid (d.out.below M d.out.lt);replace Hb0:=hid (Z0_ Hb0.out (le_refl _) M);clear M;have y:=c.out.cell 0;have z:=c.out.cell 1;have B:=c.out.cell 2;have C:=c.out.cell 3;have D:=c.out.cell 4;have G:=c.out.cell 5;have Q:=d.out.cell 0;have R:=d.out.cell 1;have S:=d.out.cell 2;have U:=d.out.cell 3;have V:=d.out.cell 4;have X:=d.out.cell 5
 go_wp2_with fail
 refine (HG.out _ _ _ _ g.out j.out k.out o.out).mono ?_;rintro e w5 ⟨vj,vf,vt,rfl,xg,hf,ht,N⟩;clear y z B C D G Q R S U V X HG;replace o:=hid (o.out.up N);replace g:=hid (g.out.up N);replace j:=hid (j.out.up N);replace k:=hid (k.out.up N);replace c:=hid (c.out.below N c.out.lt);replace d:=hid (d.out.below N d.out.lt);replace Hb0:=hid (Z0_ Hb0.out (le_refl _) N);clear N;have HJ:=hid xg;have HF:=hid hf;have HT:=hid ht;obtain ⟨Aj,cj,rfl,_,_⟩:=xg;obtain ⟨Af,cf,rfl,_⟩:=hf;obtain ⟨At,ct,rfl,_⟩:=ht;have y:=c.out.cell 0;have z:=c.out.cell 1;have B:=c.out.cell 2;have C:=c.out.cell 3;have D:=c.out.cell 4;have G:=c.out.cell 5
 go_wp2_with fail
 refine (Zg0 _ L _ HJ.out).mono ?_;rintro e w6 ⟨rfl,q⟩;rw [xl.out];clear y z B C D G;replace o:=hid (o.out.up q);replace g:=hid (g.out.up q);replace j:=hid (j.out.up q);replace k:=hid (k.out.up q);replace HJ:=hid (HJ.out.up q);replace HF:=hid (HF.out.up q);replace HT:=hid (HT.out.up q);replace c:=hid (c.out.below q c.out.lt);replace d:=hid (d.out.below q d.out.lt);replace Hb0:=hid (Z0_ Hb0.out (le_refl _) q);clear q;have y:=c.out.cell 0;have z:=c.out.cell 1;have B:=c.out.cell 2;have C:=c.out.cell 3;have D:=c.out.cell 4;have G:=c.out.cell 5
 go_wp2_with fail
 refine (HP.out _ _ _ _ HJ.out HF.out HT.out).mono ?_;rintro e w7 ⟨vp,rfl,hp,O⟩;clear y z B C D G;have xc:=hid hp;obtain ⟨Ap,cp,rfl,_⟩:=hp;replace o:=hid (o.out.up O);replace g:=hid (g.out.up O);replace j:=hid (j.out.up O);replace k:=hid (k.out.up O);replace c:=hid (c.out.below O c.out.lt);replace d:=hid (d.out.below O d.out.lt);replace Hb0:=hid (Z0_ Hb0.out (le_refl _) O);clear O;cases r
 ·exact k2_
 ·have xe:Hid (indT a (turnL s l)=true):=hid (Hr.out rfl).2.1
  have xf:Hid (indT b (turnL s l)=true):=hid (Hr.out rfl).2.2;have x5:=(Hr.out rfl).1;have y3:IntKind.i64.wrap ((s.length:Int)+1)=(s.length:Int)+1:=q40_;obtain ⟨T,hT⟩:∃ T,turnL s l=T:=⟨_,rfl⟩;rw [hT] at x5 xe xf;have y0:((T.length:Int)==(s.length:Int)+1)=true:=by rw [x5];simp
  have xk:=hid hT;clear hT x5 Hr
  go_wp2_with fail
  refine (K9_ _ _ s l _ k.out xc.out q39_ q39_).mono ?_;rintro e w8 ⟨v8,rfl,x8,P⟩;rw [xk.out] at x8;have x1:=hid x8;obtain ⟨A8,c8,rfl,_⟩:=x8;clear xc;replace o:=hid (o.out.up P);replace g:=hid (g.out.up P);replace j:=hid (j.out.up P);replace k:=hid (k.out.up P);replace c:=hid (c.out.below P c.out.lt);replace d:=hid (d.out.below P d.out.lt);replace Hb0:=hid (Z0_ Hb0.out (le_refl _) P);clear P;have y:=c.out.cell 0;have z:=c.out.cell 1;have B:=c.out.cell 2;have C:=c.out.cell 3;have D:=c.out.cell 4;have G:=c.out.cell 5
  go_wp2_with fail
  refine (C4_ a _ _ T _ g.out (V0_ x3.out) x1.out).mono ?_;rintro e w9 ⟨rfl,H⟩;rw [xe.out];clear y z B C D G;replace o:=hid (o.out.up H);replace g:=hid (g.out.up H);replace j:=hid (j.out.up H);replace k:=hid (k.out.up H);replace x1:=hid (x1.out.up H);replace c:=hid (c.out.below H c.out.lt);replace d:=hid (d.out.below H d.out.lt);replace Hb0:=hid (Z0_ Hb0.out (le_refl _) H);clear H;have Q:=d.out.cell 0;have R:=d.out.cell 1;have S:=d.out.cell 2;have U:=d.out.cell 3;have V:=d.out.cell 4;have X:=d.out.cell 5
  go_wp2_with fail
  refine (C4_ b _ _ T _ j.out (V0_ x4.out) x1.out).mono ?_;rintro e y4 ⟨rfl,J⟩;rw [xf.out];clear Q R S U V X;replace o:=hid (o.out.up J);replace g:=hid (g.out.up J);replace j:=hid (j.out.up J);replace k:=hid (k.out.up J);replace c:=hid (c.out.below J c.out.lt);replace d:=hid (d.out.below J d.out.lt);replace Hb0:=hid (Z0_ Hb0.out (le_refl _) J);clear J;exact k2_
theorem Zv9 (E:Nat→Addr) (a:Mat) (d:Value) (b:Mat) (e:Value) (c:Value) (s:List Int) (w:World) (m:MatV w w.heap.size d a) (h:Lim a) (o:MatV w w.heap.size e b) (j:Lim b) (k:Row w w.heap.size c s) (g:Env E w):Calls Tryz.prog 4 #[d,e,c] w (Truly w):=by
 cases hfa:fewB 9 a 8 with
 | false=>exact wa_1 E a d b e c s w m h o j k g hfa
 | true =>
  cases hfb:fewB 9 b 8 with
  | false=>exact wa_2 E a d b e c s w m h o j k g hfa hfb
  | true =>
   cases hm:mayS a b s with
   | false=>exact wa_3 E a d b e c s w m h o j k g hfa hfb hm
   | true=>exact Vk3 E a d b e c s w m h o j k g hfa hfb (mayS_iff.1 hm)
end Wp
end Go.Proofs.YteiejkhdonmcdaaGreatDoor
