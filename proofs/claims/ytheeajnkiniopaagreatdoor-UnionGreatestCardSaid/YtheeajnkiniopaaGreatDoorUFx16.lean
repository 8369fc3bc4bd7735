/- union's Max, walked (written by gen_umax.py). -/
import Derived.Test.YtheeajnkiniopaaGreatDoorUWayW
import Derived.Test.YtheeajnkiniopaaGreatDoorUTurn
import Derived.Test.YtheeajnkiniopaaGreatDoorURMay
import Derived.Test.YtheeajnkiniopaaGreatDoorUApp
import Derived.Test.YtheeajnkiniopaaGreatDoorZR
import Derived.Test.YtheeajnkiniopaaGreatDoorX0A
import Derived.Test.YtheeajnkiniopaaGreatDoorX0B
set_option maxHeartbeats 16000000
set_option maxRecDepth 100000
open Go.Lib (hid)
open Nat (le_refl)
namespace Go.Proofs.YtheeajnkiniopaaGreatDoor.Wp
private theorem x43_ {P:Prop} (h:P:=by simp [results,Tryz.results35,go_sem]):P:=h
open Go Go.RowKit
theorem Vj9 {w:World} {g base n:Nat} {f:Nat→Int} (h:w.rowIs g 3 n fun i=>.int .i64 (f i)) (hb:base≤g) (m:n≤maxLen):w.ownsRow base 3 1 (.slice (some ⟨g,0,none⟩) n n) n (ints ((List.range n).map f)):=by
 obtain ⟨c,d,e,h3⟩:=h;refine ⟨by simp [ints],.inr ⟨g,n,c,rfl,hb,d,le_refl _,m,x37_,?_⟩⟩;apply List.ext_getElem
 ·simp [ints,e]
 ·intro i o j
  have k:i<n:=by simpa [ints] using j
  have:=h3 i k;rw [List.getElem_take];rw [Array.getElem?_eq_getElem x37_] at this;injection this with this;simp [ints,this]
theorem Xk3 {ms:List Mat} {c l:List Int} {p:Nat→Nat} {m K:Nat} (f:WayU ms c l p m K):m+1≤c.length:=by
 have g:((List.range (m+1)).map p).Nodup:=by
  refine List.pairwise_map.2 (List.pairwise_iff_getElem.2 fun i j d k q=>?_);rw [List.getElem_range,List.getElem_range];rw [List.length_range] at d k;exact fun e=>by have:=f.inj i j x37_ x37_ e;omega
 have h:(List.range (m+1)).map p ⊆ List.range c.length:=fun x o=>by
  obtain ⟨i,d,rfl⟩:=List.mem_map.1 o;rw [List.mem_range] at d ⊢;exact (f.el i x37_).1
 have h3:=Wp.K.nodup_le g h;simpa using h3
theorem Vq0 (x j:Option Addr) (m z q:Nat) (w:World) (x2:1≤m) (x3:m≤8) (K:Row w w.heap.size (.slice j 0 q) []) :
  Calls Tryz.prog 35 #[.agg #[.slice x m z,.slice j 0 q]] w fun e w'=>e=.returned (.tuple #[.slice none 0 0,.slice none 0 0])∧Below w.heap.size w w':=by
 obtain ⟨g,hW0⟩:∃ g,g=w.alloc (.cells #[.slice x m z,.slice j 0 q] 47):=⟨_,rfl⟩;have R:=hid hW0;have B:Below w.heap.size w g:=q39_;have J:Blk g w.heap.size 47 #[.slice x m z,.slice j 0 q]:=y41_;have U:=hid B;have c:=hid J;have y:=hid (K.up B);have x4:(m:Int)≤8:=x37_;clear B J K;have o:=c.out.cell 0;have p:=c.out.cell 1;rw [hW0] at o p;clear hW0
 go_enter Tryz.func35,Tryz.ntmps35
 go_wp2_with fail
 rw [← R.out];refine (E5_ 0 g).mono ?_;rintro e W1 ⟨va,rfl,E,s⟩;have N:=hid E;have V:=hid (Z0_ U.out (le_refl _) s);replace c:=hid (c.out.below s c.out.lt);replace y:=hid (y.out.up s);obtain ⟨Aa,ca,rfl,_⟩:=id E;have x6:IntKind.i64.wrap (0+(m:Int))=(m:Int):=q38_;have x5:(0:Int)+(m:Int)=(m:Int):=x37_;clear o p E s;have o:=c.out.cell 0;have p:=c.out.cell 1;have x0:=run_make_row' 35 23 (.slice none 0 0) 24 Tryz.underlying35 Ye0 rfl .i64 .i64 m x37_ x37_ W1;obtain ⟨Y,r⟩:∃ Y,W1.alloc (.cells (madeCells #[.slice none 0 0] m) 23)=Y:=⟨_,rfl⟩;have S:=hid r;have h:Below W1.heap.size W1 Y:=by rw [← r];exact (Below.refl _ W1).alloc (le_refl _) _
 have Q:=hid (y.out.up h);have d:=hid (N.out.up h);have O:=hid (c.out.below h c.out.lt);have Z:=hid (Z0_ V.out (le_refl _) h);have L:=O.out.cell 1;rw [← r] at L;clear r h
 go_wp2_with fail
 rw [S.out];refine (G0_ _ [] (-1) Y Q.out j37_).mono ?_;rintro e G ⟨vf,rfl,u,C,_⟩;have u:Row G G.heap.size vf []:=u;have H:=hid (Z0_ Z.out (le_refl _) C);replace d:=hid (d.out.up C);obtain ⟨M,cf,rfl,_⟩:=id u;clear L u x0 o p C
 go_wp2_with fail
 refine (E5_ (m:Int) G).mono ?_;rintro e w4 ⟨vn,rfl,F,D⟩;have P:=hid F;have W:=hid (Z0_ H.out (le_refl _) D);replace d:=hid (d.out.up D);obtain ⟨An,cn,rfl,_⟩:=id F;clear F D H
 go_wp2_with fail
 refine (N2_ _ _ (allL (m:Int)) (allL 0) w4 P.out d.out (by have:=(I7_ (m:Int)).1;omega) (by have:=(I7_ 0).1;omega)).mono ?_;rintro e w5 ⟨vt,rfl,x1,I,_⟩;have X:=hid (Z0_ W.out (le_refl _) I);clear x1 I
 go_wp2_with fail
 go_loopg [8,9] 0 (fun k vn vc wr=>vn=.slice none 0 0∧vc=.slice M 0 cf∧Below w.heap.size w wr)
 case atStart=>exact ⟨rfl,rfl,X.out⟩
 case round =>
  obtain ⟨rfl,rfl,hb⟩:=hrel;have T:=hid hb
  go_wp2_with fail
  refine bodyPost_ret (v:=.tuple #[.slice none 0 0,.slice none 0 0]) x43_ rfl ?_;exact ⟨rfl,T.out⟩
theorem Vq1 (E:Nat→Addr) (ms:List Mat) (v:Value) (w:World) (hl:MatL w w.heap.size v ms) (hs:∀ m∈ms,Sml m) (d:Env E w) (h:sevB ms=false) :
  Calls Tryz.prog 13 #[v] w fun e w'=>e=.returned (.tuple #[.slice none 0 0,.slice none 0 0,.int .i64 1])∧Below w.heap.size w w':=by
 have c:=hid (T7_ E ms v w hl hs d);rw [h] at c;obtain ⟨j,k,rfl,_⟩:=id hl;clear hl hs d
 go_enter Tryz.func13,Tryz.ntmps13
 go_wp2_with fail
 refine c.out.mono ?_;rintro e o ⟨rfl,hb⟩;have g:=hid hb;clear hb
 go_wp2_with fail
 refine bodyPost_ret (v:=.tuple #[.slice none 0 0,.slice none 0 0,.int .i64 1]) (by simp [results,Tryz.results13,go_sem]) rfl ?_;exact ⟨rfl,g.out⟩
theorem T6_ (E:Nat→Addr) (ms:List Mat) (v:Value) (w:World) (hl:MatL w w.heap.size v ms) (hs:∀ m∈ms,Sml m) (hE:Env E w) (x9:sevB ms=true) :
  Calls Tryz.prog 13 #[v] w fun e w'=>∃ (vc vu:Value) (c u:List Int),e=.returned (.tuple #[vc,vu,.int .i64 0])∧Row w' w'.heap.size vc c∧Row w' w'.heap.size vu u∧Below w.heap.size w w'∧MaxU ms (nN (ms.getD 0 default)) c u:=by
 have xj:=hid (T7_ E ms v w hl hs hE);rw [x9] at xj;have F:=hid (sev_iff.1 x9).1;obtain ⟨x8,yk⟩:=F.out.many;obtain ⟨o,s,lv,iv,rfl,_,xr⟩:=MatL.one hl x8;have xi:=hid xr;have HL:=hid hl;have Hs:=hid hs;have HE:=hid hE;obtain ⟨n,W⟩:∃ n,nN (ms.getD 0 default)=n:=⟨_,rfl⟩;have yl:=F.out.n64;rw [W] at F yl;have yg:(ms.getD 0 default).n=(n:Int):=by
  have x:=(Z7_ (F.out.may 0 x8).1).1;rw [← W];omega
 have yw:(0:Int)<(ms.length:Int):=x37_;rw [W];clear hl hs hE xr x9 W
 go_enter Tryz.func13,Tryz.ntmps13
 go_wp2_with fail
 refine xj.out.mono ?_;rintro e z ⟨rfl,hb⟩;have Hb:=hid hb;clear hb;obtain ⟨X,B⟩:∃ X,X=z.alloc (.cells #[.int .i64 (-1)] 3):=⟨_,rfl⟩;have HX:=hid B;have xq:Below z.heap.size z X:=by rw [B];exact (Below.refl _ z).alloc (le_refl _) _
 have P:=hid (Z0_ Hb.out (le_refl _) xq);have q1:=(xi.out X P.out).2.1;rw [show o.add (0 * 6)=o by obtain ⟨x1,x2,x3⟩:=o;cases x3<;>simp [Addr.add],yg,B] at q1;have y0:X.cell? ⟨z.heap.size,0,none⟩=some (.int .i64 (-1)):=by rw [B];exact (Blk.new z 3 #[.int .i64 (-1)]).cell 0
 have y1:z.heap.size<X.heap.size:=by rw [B];simp
 clear B xq
 go_wp2_with fail
 rw [← HX.out];refine (R.repeat_any z.heap.size n X y0 y1 x37_).mono ?_;rintro e p ⟨rfl,Y,xo⟩;obtain ⟨g,C⟩:∃ g,X.heap.size=g:=⟨_,rfl⟩;rw [C] at Y;have xt:w.heap.size≤g:=by rw [← C];exact P.out.size
 have yq:g<p.heap.size:=World.rowIs.lt Y;have yc:=hid (Z0_ P.out (le_refl _) xo);have xy:(List.range n).map (fun _=>(-1:Int))=List.replicate n (-1):=by
  refine List.ext_getElem j37_ fun i x h2=>by simp
 have xa:=Vj9 (base:=w.heap.size) Y xt z38_;rw [xy] at xa;have xe:=hid xa;have Hg:=hid C;clear q1 y0 y1 Y xo C xy xa;obtain ⟨Q,S⟩:∃ Q,Q=p.alloc (.cells #[.slice (some o) ms.length s,.slice (some ⟨g,0,none⟩) n n] 47):=⟨_,rfl⟩;have xh:=hid S;have x5:Below p.heap.size p Q:=by rw [S];exact (Below.refl _ p).alloc (le_refl _) _
 have ye:Hid (Blk Q p.heap.size 47 #[.slice (some o) ms.length s,.slice (some ⟨g,0,none⟩) n n]):=hid (by rw [S];exact Blk.new p _ _);have y6:=hid (I6_ xe.out x5);have yd:=hid (Z0_ yc.out (le_refl _) x5);have yh:p.heap.size≠g:=x37_;clear S x5 xe xi
 go_wp2_with fail
 rw [Hg.out,← xh.out];clear xh Hg HX P
 go_loopg [6,7] (n+1) (fun k _ _ wr=>∃ (c:List Int) (j:Nat),ChainU ms n j c∧j+k=n+1∧wr.ownsRow w.heap.size 3 1 (.slice (some ⟨g,0,none⟩) n n) n (ints c)∧Blk wr p.heap.size 47 #[.slice (some o) ms.length s,.slice (some ⟨g,0,none⟩) n n]∧Below w.heap.size w wr)
 case atStart=>exact ⟨List.replicate n (-1),0,.zero,x37_,y6.out,ye.out,yd.out⟩
 case round =>
  obtain ⟨c,j,x6,yt,Z,U,T⟩:=hrel;obtain ⟨V,J,yp⟩:=Yj1 F.out x6;have x4:=hid x6;have y9:=hid Z;have xd:=hid U;have y3:=hid T;have yo:=hid V;have D:=hid J;have L:Row wr wr.heap.size (.slice (some ⟨g,0,none⟩) n n) c:=Row.of_own Z J.symm;have ya:=hid L;have yr:g<wr.heap.size:=(Z.lt g rfl).2;have xn:Hid (Calls Tryz.prog 35 #[.agg #[.slice (some o) ms.length s,.slice (some ⟨g,0,none⟩) n n]] wr fun e w'=>∃ (N vb:Value) (l t:List Int),e=.returned (.tuple #[N,vb])∧Row w' w'.heap.size N l∧Row w' w'.heap.size vb t∧Below wr.heap.size wr w'∧(∀ g,N.ownBlock=some g→wr.heap.size≤g)∧((∃ d,Greedy (adjU ms c) (endsU ms n) (Z3_ c (-1)) d l)∨(l=[]∧StopU ms c∧t=comeU ms c))):=hid (by
   by_cases xv:n=0
   ·have hc:c=[]:=List.length_eq_zero_iff.1 x37_
    have M:=Yv0 V (r:=0) (fun k I=>absurd I (Nat.not_lt_zero _)) (by rw [hc];exact le_refl _);rw [xv,hc] at L;rw [xv];refine (Vq0 (some o) (some ⟨g,0,none⟩) ms.length s 0 wr x8 yk L).mono ?_;rintro e w' ⟨rfl,hb⟩;exact ⟨_,_,[],[],rfl,Row.nil_ _ _,Row.nil_ _ _,hb,(fun g C=>by cases C),.inr ⟨rfl,M.2,M.1.symm⟩⟩
   ·have h:=Vj7 E ms (some o) (some ⟨g,0,none⟩) s n c wr V x37_ (HL.out.up T) Hs.out (by rw [J];exact L) (HE.out.up T)
    rw [J] at h;exact h)
  have b0:=U.cell 0;have b1:=U.cell 1;clear x6 Z U T V J L
  go_wp2_with fail
  refine xn.out.mono ?_;rintro e w5 ⟨N,vb,l,t,rfl,xc,xb,H,xs,ym⟩;have O:=hid (xd.out.below H xd.out.lt);have y7:=hid (I6_ y9.out H);have xf:=hid (ya.out.up H);have x0:=hid (Z0_ y3.out (le_refl _) H);have yb:=hid xc;have xg:=hid xb;have y5:Hid (∀ k,N.ownBlock=some k→k≠g):=hid fun k I=>by have:=xs k I;omega
  obtain ⟨Aw,cw,rfl,_⟩:=id xc;obtain ⟨Ab,cb,rfl,_⟩:=id xb;clear b0 b1 xc xb H xs xn;have b0:=O.out.cell 0;have b1:=O.out.cell 1;rcases ym with ⟨d,x7⟩ | ⟨rfl,M,xz⟩
  ·obtain ⟨q,m,K,y⟩:=Xh6 (c:=c) (by rw [D.out];exact x7)
   have yn:=Xk3 y;have yj:=y.len;have xx:=y.pt;have hK:=y.hK;have yi:=D.out;have yf:=hid (show Greedy (adjU ms c) (endsU ms c.length) (Z3_ c (-1)) d l by rw [D.out];exact x7);have G:∀ i,i<l.length→(i≤m∧q i<c.length∧l.getD i 0=(q i:Int))∨(i=m+1∧l.getD i 0=(c.length:Int)+(K:Int)):=fun i hi=>by
    by_cases e:i≤m
    ·exact .inl ⟨e,(y.el i e).1,(y.el i e).2⟩
    ·have:i=m+1:=by omega
     exact .inr ⟨this,by rw [this];exact xx⟩
   have xm:=hid (Xk2 (some o) s ms.length g n w.heap.size c l _ w5 xt (by rw [D.out];exact y7.out) yb.out y5.out x37_ x37_ x37_
    (fun i k ys I e=>by
     rcases G i x37_ with ⟨x,h2,h3⟩ | ⟨x,h3⟩<;>rcases G k I with ⟨h4,h5,h6⟩ | ⟨h4,h6⟩
     ·have:=y.inj i k x h4 x37_
      omega
     ·omega
     ·omega
     ·omega)
    (fun i hi=>by
     rcases G i x37_ with ⟨x,h2,h3⟩ | ⟨x,h3⟩
     ·omega
     ·omega)
    (fun i hi=>by
     rcases G i hi with ⟨x,h2,h3⟩ | ⟨x,h3⟩
     ·omega
     ·omega))
   rw [D.out] at xm;have yv:¬ (l.length:Int)=0:=x37_;have yu:j≤n:=x37_;clear x7 y G yj xx hK yn yi
   go_wp2_with fail
   refine xm.out.mono ?_;rintro e w6 ⟨rfl,xw,xp,xu⟩;have y8:=hid xw;have y2:=hid (x0.out.trans xp);have y4:Hid (Blk w6 p.heap.size 47 #[.slice (some o) ms.length s,.slice (some ⟨g,0,none⟩) n n]):=hid ((xu _ O.out.lt yh).trans O.out);clear xw xp xu
   go_wp2_with fail
   go_roundg (n - j)
   case measure=>omega
   case rel=>exact ⟨J4_ c l c,j+1,.succ x4.out yf.out,x37_,y8.out,y4.out,y2.out⟩
  ·have xk:=hid M
   have xl:=hid xz;clear M xz
   go_wp2_with fail
   refine bodyPost_ret (v:=.tuple #[.slice (some ⟨g,0,none⟩) n n,.slice Ab t.length cb,.int .i64 0]) (by simp [results,Tryz.results13,go_sem]) rfl ?_
   first
   | exact ⟨_,_,c,t,rfl,xf.out,xg.out,x0.out,⟨j,x4.out⟩,xk.out,xl.out⟩
   | exact ⟨_,_,rfl,c,xf.out,t,xg.out,x0.out,⟨j,x4.out⟩,xk.out,xl.out⟩
open Go Go.RowKit
theorem Zk6 (W:World):MatL (W.alloc (.cells #[.int .i64 0,.int .i64 3,.int .i64 1,.int .i64 0,.slice none 0 0,.slice none 0 0] 37)) (W.alloc (.cells #[.int .i64 0,.int .i64 3,.int .i64 1,.int .i64 0,.slice none 0 0,.slice none 0 0] 37)).heap.size (.slice (some ⟨W.heap.size,0,none⟩) 1 1) [unU 3 1]:=by
 have h:=Vv9 (W:=W) (O6_ W W.heap.size 0 3 1 0)
 rwa [show W.heap.size+1=(W.alloc (.cells #[.int .i64 0,.int .i64 3,.int .i64 1,.int .i64 0,.slice none 0 0,.slice none 0 0] 37)).heap.size by simp] at h
theorem Zk7 (W:World):MatL (W.alloc (.cells #[.int .i64 0,.int .i64 3,.int .i64 1,.int .i64 0,.slice none 0 0,.slice none 0 0,.int .i64 0,.int .i64 3,.int .i64 1,.int .i64 0,.slice none 0 0,.slice none 0 0] 37)) (W.alloc (.cells #[.int .i64 0,.int .i64 3,.int .i64 1,.int .i64 0,.slice none 0 0,.slice none 0 0,.int .i64 0,.int .i64 3,.int .i64 1,.int .i64 0,.slice none 0 0,.slice none 0 0] 37)).heap.size (.slice (some ⟨W.heap.size,0,none⟩) 2 2) two31:=by
 have hb:=Blk.new W 37 #[.int .i64 0,.int .i64 3,.int .i64 1,.int .i64 0,.slice none 0 0,.slice none 0 0,.int .i64 0,.int .i64 3,.int .i64 1,.int .i64 0,.slice none 0 0,.slice none 0 0];have hs:W.heap.size<(W.alloc (.cells #[.int .i64 0,.int .i64 3,.int .i64 1,.int .i64 0,.slice none 0 0,.slice none 0 0,.int .i64 0,.int .i64 3,.int .i64 1,.int .i64 0,.slice none 0 0,.slice none 0 0] 37)).heap.size:=j37_;refine ⟨_,2,rfl,⟨le_refl _,x38_,fun e=>by cases e⟩,fun k c=>⟨⟨W.heap.size,0,none⟩,.agg #[.int .i64 0,.int .i64 3,.int .i64 1,.int .i64 0,.slice none 0 0,.slice none 0 0],rfl,hs,?_,?_⟩⟩
 ·match k,c with
  | 0,_=>exact ⟨_,_,_,_,_,_,rfl,hb.cell 0,hb.cell 1,hb.cell 2,hb.cell 3,hb.cell 4,hb.cell 5⟩
  | 1,_=>exact ⟨_,_,_,_,_,_,rfl,hb.cell 6,hb.cell 7,hb.cell 8,hb.cell 9,hb.cell 10,hb.cell 11⟩
 ·match k,c with
  | 0,_=>exact O6_ _ _ 0 3 1 0
  | 1,_=>exact O6_ _ _ 0 3 1 0
theorem sameF (u v:Value) (l:List Int) (W:World) (c:Row W W.heap.size u l) (d:Row W W.heap.size v l) (hl:l.length≤1000):Calls Tryz.prog 15 #[u,v] W (Says W true) :=
 Vo9 u v l l W c d x37_ x37_ (by unfold sameB;simp)
theorem Y5_ (E:Nat→Addr) (w:World) (hE:Env E w):Calls Tryz.prog 12 #[] w (Truly w):=by
 obtain ⟨W1,M⟩:∃ W1,W1=w.alloc (.cells #[.int .i64 0,.int .i64 3,.int .i64 1,.int .i64 0,.slice none 0 0,.slice none 0 0] 37):=⟨_,rfl⟩;have x0:=hid M;have V:Below w.heap.size w W1:=by rw [M];exact (Below.refl _ w).alloc (le_refl _) _
 have d:Hid (Blk W1 w.heap.size 37 #[.int .i64 0,.int .i64 3,.int .i64 1,.int .i64 0,.slice none 0 0,.slice none 0 0]):=hid (by rw [M];exact Blk.new w _ _);have Y:Hid (W1.heap.size=w.heap.size+1):=hid (by rw [M];simp);have Hb0:=hid V;have g:=hid (hE.up V);clear hE M V;have r:=d.out.cell 0;have s:=d.out.cell 1;have v:=d.out.cell 2;have y:=d.out.cell 3;have z:=d.out.cell 4;have B:=d.out.cell 5;have k:=hid (Zk7 W1);have h:Hid (Below W1.heap.size W1 (W1.alloc (.cells #[.int .i64 0,.int .i64 3,.int .i64 1,.int .i64 0,.slice none 0 0,.slice none 0 0,.int .i64 0,.int .i64 3,.int .i64 1,.int .i64 0,.slice none 0 0,.slice none 0 0] 37))):=hid ((Below.refl _ _).alloc (le_refl _) _);rw [Y.out] at k
 go_enter Tryz.func12,Tryz.ntmps12
 go_wp2_with fail
 rw [← x0.out];refine (T6_ E two31 _ _ k.out (by intro x o;simp [two31] at o;subst o;exact K3_ ..) (g.out.up h.out) Vb6).mono ?_;rintro e w3 ⟨vc,vu,c,u,rfl,hc,hu,G,hm⟩;obtain ⟨rfl,rfl⟩:=Jv0 hm;have N:=hid hc;have C:=hid hu;obtain ⟨Ac,cc,rfl,-⟩:=hc;obtain ⟨Au,cu,rfl,-⟩:=hu;replace G:=Z0_ h.out (le_refl _) G;clear hm x0 k h Y;clear r s v y z B;replace g:=hid (g.out.up G);replace d:=hid (d.out.below G d.out.lt);replace Hb0:=hid (Z0_ Hb0.out (le_refl _) G);clear G
 go_wp2_with fail
 refine (Vq1 E [] _ _ (MatL.nil_ _ _) j37_ g.out Vr8).mono ?_;rintro e R ⟨rfl,H⟩;replace g:=hid (g.out.up H);replace N:=hid (N.out.up H);replace C:=hid (C.out.up H);replace d:=hid (d.out.below H d.out.lt);replace Hb0:=hid (Z0_ Hb0.out (le_refl _) H);clear H;have m:=hid (Row.here (Row.lit3 R 0 1 (-1)));have j:Hid (Below R.heap.size R (R.alloc (.cells #[.int .i64 0,.int .i64 1,.int .i64 (-1)] 3))):=hid ((Below.refl _ _).alloc (le_refl _) _)
 go_wp2_with fail
 refine (sameF _ _ [0,1,-1] _ (N.out.up j.out) m.out x38_).mono ?_;rintro e S ⟨rfl,q⟩;replace q:=Z0_ j.out (le_refl _) q;clear m j N;replace g:=hid (g.out.up q);replace C:=hid (C.out.up q);replace d:=hid (d.out.below q d.out.lt);replace Hb0:=hid (Z0_ Hb0.out (le_refl _) q);clear q;have r:=d.out.cell 0;have s:=d.out.cell 1;have v:=d.out.cell 2;have y:=d.out.cell 3;have z:=d.out.cell 4;have B:=d.out.cell 5;have k:=hid (Zk7 S);have h:Hid (Below S.heap.size S (S.alloc (.cells #[.int .i64 0,.int .i64 3,.int .i64 1,.int .i64 0,.slice none 0 0,.slice none 0 0,.int .i64 0,.int .i64 3,.int .i64 1,.int .i64 0,.slice none 0 0,.slice none 0 0] 37))):=hid ((Below.refl _ _).alloc (le_refl _) _)
 go_wp2_with fail
 refine (G3_ E two31 _ _ [0,1,2] _ k.out (by intro x o;simp [two31] at o;subst o;exact K3_ ..) (C.out.up h.out) x38_ (g.out.up h.out) (Yp3 _ _ (.inl rfl) x38_)).mono ?_;rintro e T ⟨rfl,I⟩;rw [Vr4];replace I:=Z0_ h.out (le_refl _) I;clear k h C;clear r s v y z B;replace g:=hid (g.out.up I);replace d:=hid (d.out.below I d.out.lt);replace Hb0:=hid (Z0_ Hb0.out (le_refl _) I);clear I;have r:=d.out.cell 0;have s:=d.out.cell 1;have v:=d.out.cell 2;have y:=d.out.cell 3;have z:=d.out.cell 4;have B:=d.out.cell 5;have k:=hid (Zk6 T);have h:Hid (Below T.heap.size T (T.alloc (.cells #[.int .i64 0,.int .i64 3,.int .i64 1,.int .i64 0,.slice none 0 0,.slice none 0 0] 37))):=hid ((Below.refl _ _).alloc (le_refl _) _)
 go_wp2_with fail
 refine (G3_ E [unU 3 1] _ _ [] _ k.out (by intro x o;simp at o;subst o;exact K3_ ..) (Row.nil_ _ _) x38_ (g.out.up h.out) (Yp3 _ _ (.inr (.inl rfl)) x38_)).mono ?_;rintro e L ⟨rfl,J⟩;rw [Vr5];replace J:=Z0_ h.out (le_refl _) J;clear k h;clear r s v y z B;replace g:=hid (g.out.up J);replace d:=hid (d.out.below J d.out.lt);replace Hb0:=hid (Z0_ Hb0.out (le_refl _) J);clear J;have r:=d.out.cell 0;have s:=d.out.cell 1;have v:=d.out.cell 2;have y:=d.out.cell 3;have z:=d.out.cell 4;have B:=d.out.cell 5;have k:=hid (Zk6 L);have h:Hid (Below L.heap.size L (L.alloc (.cells #[.int .i64 0,.int .i64 3,.int .i64 1,.int .i64 0,.slice none 0 0,.slice none 0 0] 37))):=hid ((Below.refl _ _).alloc (le_refl _) _);obtain ⟨p,O⟩:∃ p,p=L.alloc (.cells #[.int .i64 0,.int .i64 3,.int .i64 1,.int .i64 0,.slice none 0 0,.slice none 0 0] 37):=⟨_,rfl⟩;have x1:=hid O;have Z:Hid (p.heap.size=L.heap.size+1):=hid (by rw [O];simp);rw [← O] at k h;have m:=hid (Row.here (Row.lit3 p 0 1 2));have j:Hid (Below p.heap.size p (p.alloc (.cells #[.int .i64 0,.int .i64 1,.int .i64 2] 3))):=hid ((Below.refl _ _).alloc (le_refl _) _);rw [Z.out] at m;clear O
 go_wp2_with fail
 rw [← x1.out];refine (G3_ E [unU 3 1] _ _ [0,1,2] _ (k.out.up j.out) (by intro x o;simp at o;subst o;exact K3_ ..) m.out x38_ ((g.out.up h.out).up j.out) (Yp3 _ _ (.inr (.inl rfl)) x38_)).mono ?_;rintro e w8 ⟨rfl,K⟩;rw [Vr6];replace K:=Z0_ h.out (le_refl _) (Z0_ j.out (le_refl _) K);clear k h m j x1 Z;clear r s v y z B;replace g:=hid (g.out.up K);replace d:=hid (d.out.below K d.out.lt);replace Hb0:=hid (Z0_ Hb0.out (le_refl _) K);clear K
 go_wp2_with fail
 refine (G3_ E [] _ _ [] _ (MatL.nil_ _ _) j37_ (Row.nil_ _ _) x38_ g.out (Yp3 _ _ (.inr (.inr rfl)) x38_)).mono ?_;rintro e U ⟨rfl,P⟩;rw [Vr7];replace g:=hid (g.out.up P);replace d:=hid (d.out.below P d.out.lt);replace Hb0:=hid (Z0_ Hb0.out (le_refl _) P);clear P;have m:=hid (Row.here (Row.lit3 U 1 (-1) 1));have j:Hid (Below U.heap.size U (U.alloc (.cells #[.int .i64 1,.int .i64 (-1),.int .i64 1] 3))):=hid ((Below.refl _ _).alloc (le_refl _) _)
 go_wp2_with fail
 refine (G0_ _ [1,-1,1] 1 _ m.out x38_).mono ?_;rintro e Q ⟨vk,rfl,W,D,_⟩;rw [Jv1] at W;replace D:=Z0_ j.out (le_refl _) D;have X:=hid W;obtain ⟨Ak,ck,rfl,-⟩:=W;clear m j;replace g:=hid (g.out.up D);replace d:=hid (d.out.below D d.out.lt);replace Hb0:=hid (Z0_ Hb0.out (le_refl _) D);clear D;have m:=hid (Row.here (Row.lit2 Q 0 2));have j:Hid (Below Q.heap.size Q (Q.alloc (.cells #[.int .i64 0,.int .i64 2] 3))):=hid ((Below.refl _ _).alloc (le_refl _) _)
 go_wp2_with fail
 refine (sameF _ _ [0,2] _ (X.out.up j.out) m.out x38_).mono ?_;rintro e x2 ⟨rfl,F⟩;replace F:=Z0_ j.out (le_refl _) F;clear m j X;replace g:=hid (g.out.up F);replace d:=hid (d.out.below F d.out.lt);replace Hb0:=hid (Z0_ Hb0.out (le_refl _) F);clear F;exact x2_
end Go.Proofs.YtheeajnkiniopaaGreatDoor.Wp
