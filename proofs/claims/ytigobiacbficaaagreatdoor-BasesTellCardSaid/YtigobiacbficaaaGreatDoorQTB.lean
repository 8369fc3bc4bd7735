/- The document's plain, walked. -/
import Derived.Test.YtigobiacbficaaaGreatDoorQTA
import Derived.Test.YtigobiacbficaaaGreatDoorQWalkC
import Derived.Test.YtigobiacbficaaaGreatDoorX0A
import Derived.Test.YtigobiacbficaaaGreatDoorX0B
set_option maxHeartbeats 8000000
set_option maxRecDepth 100000
open Go.Lib (hid)
open Nat (le_refl)
namespace Go.Proofs.YtigobiacbficaaaGreatDoor.Wp
private theorem q31_ {P:Prop} (h:P:=by
 subst hu0 hu1
 clear hv hlk hr0 hr1 hc0 hc1 h0 h1 hl2 hsz Hr0 Hr1
 go_enter Tryz.func81,Tryz.ntmps81
 go_wp2
 rw [← HW0.out]
 clear hW0
 refine Z6_ W0.heap.size W0 (by kernel_rfl) (by kernel_rfl) (Below.refl _ _) ?_
 repeat (first
   | go_big_quiet_step (with_reducible exact Hn0.out _)
   | go_big_quiet_step (with_reducible exact Hn1.out _)
   | (go_big_quiet_want;apply Exists.intro;refine ⟨fun W hW=>?_,?_⟩;(· have q:=Hbox.out W hW;have q1:=q 1;have q2:=q 2;have q4:=q 4;have q0:=q 0;clear q;have r0:=Hc0.out W hW;have r1:=Hc1.out W hW;go_simp;first | exact rfl | exact ⟨rfl,rfl⟩);go_simp;go_big_quiet_on))
 exact k2_):P:=h
open Go.RowKit
def F7_ (m:Mat):Bool :=
 if 0<m.i.length∨(m.t≠4∧m.b≠0) then false
 else if m.t=0 then decide (m.a≤m.n) && decide (m.l.length=0)
 else if m.t=1 then !m.l.any (edgeB m.a) && decide (1≤m.a) && decide ((m.l.length:Int)=m.n)
 else if m.t=2 then decide (m.l.length=2) && numsB (row m 0) m.n m.a && numsB (row m 1) m.a 65
 else if m.t=3 then decide ((m.l.length:Int)=m.n) && mayM m.a m.l
 else if m.t=4 then decide ((m.l.length:Int)=m.n) && elimB m.b m.a m.l else false
theorem Xm1 {m:Mat} (h2:0≤m.n∧m.n≤64∧0≤m.a∧m.a≤64) (p:¬ nest m.t):F7_ m=decide (bad m=0):=by
 have e:(bad m=0)↔(0≤m.t∧m.t<10)∧Z9_ (form m.t) m=true∧fitsB m=true:=by
  constructor
  ·intro h;have:=V1_ h;exact ⟨this.1,this.2.2⟩
  ·rintro ⟨k,h3,o⟩;exact Xh7 k h2 h3 o
 rw [Bool.eq_iff_iff,decide_eq_true_iff,e,takes_iff];obtain ⟨t,n,a,b,l,i⟩:=m;unfold nest at p;unfold F7_;simp only [Mat.t,Mat.n,Mat.a,Mat.b,Mat.l,Mat.i] at *
 by_cases c:t=0
 ·subst c;simp [form,fitsB,Mat.t,Mat.n,Mat.a];grind
 by_cases d:t=1
 ·subst d;simp [form,fitsB,Mat.t,Mat.a,Mat.l];grind
 by_cases f:t=2
 ·subst f;simp [form,fitsB,Mat.t,Mat.n,Mat.a];grind
 by_cases g:t=3
 ·subst g;simp [form,fitsB,Mat.t,Mat.a,Mat.l];grind
 by_cases j:t=4
 ·subst j;simp [form,fitsB,Mat.t,Mat.a,Mat.b,Mat.l];grind
 ·simp [c,d,f,g,j];omega
theorem Yq7 (m:Mat) (v:Value) (w:World) (d:MatV w w.heap.size v m) (h:0<m.i.length):Calls Tryz.prog 81 #[v] w (Says w false):=by
 obtain ⟨e,p,rfl,_,⟨A,c,rfl,_⟩⟩:=d.open;have Hb0:=hid (Z1_ w m e (.slice A m.i.length c));have g:=(Z4_ w m e (.slice A m.i.length c)).cell;have j:=g 0;have k:=g 3;have o:=g 5;have hI:(0:Int)<(m.i.length:Int):=y40_;clear d g;unfold boxed at *
 exact k31_
theorem Vq9 (m:Mat) (v:Value) (w:World) (d:MatV w w.heap.size v m) (h:m.i.length=0) (j:m.t≠4) (hb:m.b≠0):Calls Tryz.prog 81 #[v] w (Says w false):=by
 obtain ⟨e,s,rfl,_,⟨A,c,rfl,_⟩⟩:=d.open;rw [h];have Hb0:=hid (Z1_ w m e (.slice A 0 c));have g:=(Z4_ w m e (.slice A 0 c)).cell;have p:=g 0;have q:=g 3;have r:=g 5;have k:(m.t != 4)=true:=by simpa using j
 have o:(m.b != 0)=true:=by simpa using hb
 clear d g;unfold boxed at *
 exact k31_
theorem Va0 (n a:Int) (l:List (List Int)) (v:Value) (w:World) (e:MatV w w.heap.size v (.mk 0 n a 0 l [])):Calls Tryz.prog 81 #[v] w (Says w (decide (a≤n) && decide (l.length=0))):=by
 obtain ⟨m,k,rfl,⟨g,cl,rfl,_⟩,⟨A,c,rfl,_⟩⟩:=e.open;simp only [Mat.t,Mat.n,Mat.a,Mat.b,Mat.l,Mat.i,List.length_nil];have Hb0:Hid (Below w.heap.size w (w.alloc (.cells #[.int .i64 0,.int .i64 n,.int .i64 a,.int .i64 0,.slice g l.length cl,.slice A 0 c] 25))):=(Below.refl _ w).alloc (le_refl _) _;clear e;by_cases d:a≤n
 ·rw [decide_eq_true d,Bool.true_and]
  go_enter Tryz.func81,Tryz.ntmps81
  go_wp2;go_ret;refine ⟨?_,Hb0.out⟩;by_cases h:l.length=0<;>simp [h]
 ·rw [decide_eq_false d,Bool.false_and]
  have j:n<a:=y40_;exact k31_
theorem Va1 (n a:Int) (l:List (List Int)) (v:Value) (w:World) (d:MatV w w.heap.size v (.mk 3 n a 0 l [])):Calls Tryz.prog 81 #[v] w (Says w (decide ((l.length:Int)=n) && mayM a l)):=by
 obtain ⟨h,k,rfl,hl,⟨A,c,rfl,_⟩⟩:=d.open;simp only [Mat.t,Mat.n,Mat.a,Mat.b,Mat.l,Mat.i,List.length_nil] at *
 have Hb0:Hid (Below w.heap.size w (w.alloc (.cells #[.int .i64 3,.int .i64 n,.int .i64 a,.int .i64 0,h,.slice A 0 c] 25))):=(Below.refl _ w).alloc (le_refl _) _;have g:=hid (hl.up Hb0.out);generalize hc:mayM a l=r;have Hcc:Hid (mayM a l=r):=hc;obtain ⟨j,cl,rfl,_⟩:=hl;clear d hc;by_cases h1:(l.length:Int)=n
 ·rw [decide_eq_true h1,Bool.true_and]
  have h1':((l.length:Int)==n)=true:=by simp [h1]
  go_enter Tryz.func81,Tryz.ntmps81
  go_wp2_with fail
  refine (Xm0 a _ l _ g.out).mono ?_;exact j38_
 ·exact x39_
theorem Va2 (n a b:Int) (l:List (List Int)) (v:Value) (w:World) (d:MatV w w.heap.size v (.mk 4 n a b l [])):Calls Tryz.prog 81 #[v] w (Says w (decide ((l.length:Int)=n) && elimB b a l)):=by
 obtain ⟨h,k,rfl,hl,⟨A,c,rfl,_⟩⟩:=d.open;simp only [Mat.t,Mat.n,Mat.a,Mat.b,Mat.l,Mat.i,List.length_nil] at *
 have Hb0:Hid (Below w.heap.size w (w.alloc (.cells #[.int .i64 4,.int .i64 n,.int .i64 a,.int .i64 b,h,.slice A 0 c] 25))):=(Below.refl _ w).alloc (le_refl _) _;have g:=hid (hl.up Hb0.out);generalize hc:elimB b a l=r;have Hcc:Hid (elimB b a l=r):=hc;obtain ⟨j,cl,rfl,_⟩:=hl;clear d hc;by_cases h1:(l.length:Int)=n
 ·rw [decide_eq_true h1,Bool.true_and]
  have h1':((l.length:Int)==n)=true:=by simp [h1]
  go_enter Tryz.func81,Tryz.ntmps81
  go_wp2_with fail
  refine (Zf5 b a _ l _ g.out).mono ?_;exact j38_
 ·exact x39_
theorem Xj6 (t n a:Int) (l:List (List Int)) (v:Value) (w:World) (h:t<0∨4<t) (d:MatV w w.heap.size v (.mk t n a 0 l [])):Calls Tryz.prog 81 #[v] w (Says w false):=by
 obtain ⟨e,p,rfl,_,⟨A,c,rfl,_⟩⟩:=d.open;simp only [Mat.t,Mat.n,Mat.a,Mat.b,Mat.l,Mat.i,List.length_nil] at *
 have Hb0:Hid (Below w.heap.size w (w.alloc (.cells #[.int .i64 t,.int .i64 n,.int .i64 a,.int .i64 0,e,.slice A 0 c] 25))):=(Below.refl _ w).alloc (le_refl _) _;have g:(t==0)=false:=x41_;have j:(t==1)=false:=x41_;have k:(t==2)=false:=x41_;have m:(t==3)=false:=x41_;have o:(t==4)=false:=x41_;have q:(t != 4)=true:=x41_;clear d h;exact k31_
open Go.RowKit
theorem Xj7 (n a:Int) (l:List (List Int)) (v:Value) (w:World) (hv:MatV w w.heap.size v (.mk 2 n a 0 l [])) (hl2:l.length=2) (C:0≤a∧a≤64) (h0:numsB (l.getD 0 []) n a=true) (h1:numsB (l.getD 1 []) a 65=true):Calls Tryz.prog 81 #[v] w (Says w true):=by
 obtain ⟨K,J,rfl,⟨s,cl,rfl,_,hlk⟩,⟨d,g,rfl,_⟩⟩:=hv.open;simp only [Mat.t,Mat.n,Mat.a,Mat.b,Mat.l,Mat.i,List.length_nil] at *
 obtain ⟨c,j,o,h,hc0,hr0⟩:=hlk 0 y40_;subst o;obtain ⟨y,k,r,_,hc1,hr1⟩:=hlk 1 y40_;obtain rfl:=Option.some.inj r;rw [add_zero] at hc0;generalize l.getD 0 []=r0 at *
 generalize l.getD 1 []=r1 at *
 obtain ⟨u,z,hu0,_⟩:=id hr0;obtain ⟨x,B,hu1,_⟩:=id hr1;have Hb0:Hid (Below w.heap.size w (w.alloc (.cells #[.int .i64 2,.int .i64 n,.int .i64 a,.int .i64 0,.slice (some c) l.length cl,.slice d 0 g] 25))):=(Below.refl _ w).alloc (le_refl _) _;have Hbox:=hid (K1_ (w:=w) (t := 25) (cs:=#[.int .i64 2,.int .i64 n,.int .i64 a,.int .i64 0,.slice (some c) l.length cl,.slice d 0 g]));have Hr0:=hid (hr0.up Hb0.out);have Hr1:=hid (hr1.up Hb0.out);have Hc0:=hid (V7_ ((Hb0.out.cell (p:=c) h).trans hc0) (Nat.lt_of_lt_of_le h Hb0.out.size));rw [show c.add 1=(⟨c.block,c.off+1,none⟩:Addr) by simp [Addr.add]] at hc1;have Hc1:=hid (V7_ ((Hb0.out.cell (p:=⟨c.block,c.off+1,none⟩) h).trans hc1) (show c.block<_ from Nat.lt_of_lt_of_le h Hb0.out.size));have D:((l.length:Int)==2)=true:=by simp [hl2]
 have I:IntKind.i64.wrap (a - 1)=a - 1:=y41_;have E:(1:Int)<(l.length:Int):=y40_;have F:(0:Int)<(l.length:Int):=y40_;have G:0<l.length:=y40_;have H:1<l.length:=y40_;obtain ⟨W0,hW0⟩:∃ W0,W0=w.alloc (.cells #[.int .i64 2,.int .i64 n,.int .i64 a,.int .i64 0,.slice (some c) l.length cl,.slice d 0 g] 25):=⟨_,rfl⟩;have hsz:W0.heap.size=w.heap.size+1:=z42_;have HW0:=hid hW0;have m:=(Blk.new w 25 #[.int .i64 2,.int .i64 n,.int .i64 a,.int .i64 0,.slice (some c) l.length cl,.slice d 0 g]).cell 0;rw [← hW0] at Hb0 Hbox Hr0 Hr1 Hc0 Hc1 m;rw [← hsz] at Hbox;have Hn0:Hid (∀ W,Below W0.heap.size W0 W→Calls Tryz.prog 110 #[j,.int .i64 n,.int .i64 (a - 1)] W fun e w'=>e=.returned (.bool true)∧Below W0.heap.size W0 w'):=fun W hW =>
  (B5_ n (a - 1) j r0 W (Hr0.out.up hW)).mono fun _ _ ⟨h2,h3⟩=>⟨by rw [h2,Int.sub_add_cancel,h0],Z0_ hW (le_refl _) h3⟩
 have Hn1:Hid (∀ W,Below W0.heap.size W0 W→Calls Tryz.prog 110 #[k,.int .i64 a,.int .i64 64] W fun e w'=>e=.returned (.bool true)∧Below W0.heap.size W0 w'):=fun W hW =>
  (B5_ a 64 k r1 W (Hr1.out.up hW)).mono fun _ _ ⟨h2,h3⟩=>⟨by rw [h2,show (64:Int)+1=65 from rfl,h1],Z0_ hW (le_refl _) h3⟩
 exact q31_
theorem Xj8 (n a:Int) (l:List (List Int)) (v:Value) (w:World) (hv:MatV w w.heap.size v (.mk 2 n a 0 l [])) (hl2:l.length=2) (C:0≤a∧a≤64) (h0:numsB (l.getD 0 []) n a=true) (h1:numsB (l.getD 1 []) a 65=false):Calls Tryz.prog 81 #[v] w (Says w false):=by
 obtain ⟨K,J,rfl,⟨s,cl,rfl,_,hlk⟩,⟨d,g,rfl,_⟩⟩:=hv.open;simp only [Mat.t,Mat.n,Mat.a,Mat.b,Mat.l,Mat.i,List.length_nil] at *
 obtain ⟨c,j,o,h,hc0,hr0⟩:=hlk 0 y40_;subst o;obtain ⟨y,k,r,_,hc1,hr1⟩:=hlk 1 y40_;obtain rfl:=Option.some.inj r;rw [add_zero] at hc0;generalize l.getD 0 []=r0 at *
 generalize l.getD 1 []=r1 at *
 obtain ⟨u,z,hu0,_⟩:=id hr0;obtain ⟨x,B,hu1,_⟩:=id hr1;have Hb0:Hid (Below w.heap.size w (w.alloc (.cells #[.int .i64 2,.int .i64 n,.int .i64 a,.int .i64 0,.slice (some c) l.length cl,.slice d 0 g] 25))):=(Below.refl _ w).alloc (le_refl _) _;have Hbox:=hid (K1_ (w:=w) (t := 25) (cs:=#[.int .i64 2,.int .i64 n,.int .i64 a,.int .i64 0,.slice (some c) l.length cl,.slice d 0 g]));have Hr0:=hid (hr0.up Hb0.out);have Hr1:=hid (hr1.up Hb0.out);have Hc0:=hid (V7_ ((Hb0.out.cell (p:=c) h).trans hc0) (Nat.lt_of_lt_of_le h Hb0.out.size));rw [show c.add 1=(⟨c.block,c.off+1,none⟩:Addr) by simp [Addr.add]] at hc1;have Hc1:=hid (V7_ ((Hb0.out.cell (p:=⟨c.block,c.off+1,none⟩) h).trans hc1) (show c.block<_ from Nat.lt_of_lt_of_le h Hb0.out.size));have D:((l.length:Int)==2)=true:=by simp [hl2]
 have I:IntKind.i64.wrap (a - 1)=a - 1:=y41_;have E:(1:Int)<(l.length:Int):=y40_;have F:(0:Int)<(l.length:Int):=y40_;have G:0<l.length:=y40_;have H:1<l.length:=y40_;obtain ⟨W0,hW0⟩:∃ W0,W0=w.alloc (.cells #[.int .i64 2,.int .i64 n,.int .i64 a,.int .i64 0,.slice (some c) l.length cl,.slice d 0 g] 25):=⟨_,rfl⟩;have hsz:W0.heap.size=w.heap.size+1:=z42_;have HW0:=hid hW0;have m:=(Blk.new w 25 #[.int .i64 2,.int .i64 n,.int .i64 a,.int .i64 0,.slice (some c) l.length cl,.slice d 0 g]).cell 0;rw [← hW0] at Hb0 Hbox Hr0 Hr1 Hc0 Hc1 m;rw [← hsz] at Hbox;have Hn0:Hid (∀ W,Below W0.heap.size W0 W→Calls Tryz.prog 110 #[j,.int .i64 n,.int .i64 (a - 1)] W fun e w'=>e=.returned (.bool true)∧Below W0.heap.size W0 w'):=fun W hW =>
  (B5_ n (a - 1) j r0 W (Hr0.out.up hW)).mono fun _ _ ⟨h2,h3⟩=>⟨by rw [h2,Int.sub_add_cancel,h0],Z0_ hW (le_refl _) h3⟩
 have Hn1:Hid (∀ W,Below W0.heap.size W0 W→Calls Tryz.prog 110 #[k,.int .i64 a,.int .i64 64] W fun e w'=>e=.returned (.bool false)∧Below W0.heap.size W0 w'):=fun W hW =>
  (B5_ a 64 k r1 W (Hr1.out.up hW)).mono fun _ _ ⟨h2,h3⟩=>⟨by rw [h2,show (64:Int)+1=65 from rfl,h1],Z0_ hW (le_refl _) h3⟩
 exact q31_
theorem Xm2 (n a:Int) (l:List (List Int)) (v:Value) (w:World) (G:MatV w w.heap.size v (.mk 2 n a 0 l [])) (E:l.length=2) (Y:0≤a∧a≤64) (D:numsB (l.getD 0 []) n a=false):Calls Tryz.prog 81 #[v] w (Says w false):=by
 obtain ⟨lv,iv,rfl,⟨R,cl,rfl,_,u⟩,⟨h,j,rfl,_⟩⟩:=G.open;simp only [Mat.t,Mat.n,Mat.a,Mat.b,Mat.l,Mat.i,List.length_nil] at *
 obtain ⟨c,I,M,k,r,x⟩:=u 0 y40_;subst M;obtain ⟨U,u1,N,_,s,y⟩:=u 1 y40_;obtain rfl:=Option.some.inj N;rw [add_zero] at r;generalize l.getD 0 []=H at *
 generalize l.getD 1 []=Q at *
 obtain ⟨S,V,O,_⟩:=id x;obtain ⟨T,X,P,_⟩:=id y;have Hb0:Hid (Below w.heap.size w (w.alloc (.cells #[.int .i64 2,.int .i64 n,.int .i64 a,.int .i64 0,.slice (some c) l.length cl,.slice h 0 j] 25))):=(Below.refl _ w).alloc (le_refl _) _;have m:=hid (K1_ (w:=w) (t := 25) (cs:=#[.int .i64 2,.int .i64 n,.int .i64 a,.int .i64 0,.slice (some c) l.length cl,.slice h 0 j]));have o:=hid (x.up Hb0.out);have C:=hid (y.up Hb0.out);have z:=hid (V7_ ((Hb0.out.cell (p:=c) k).trans r) (Nat.lt_of_lt_of_le k Hb0.out.size));rw [show c.add 1=(⟨c.block,c.off+1,none⟩:Addr) by simp [Addr.add]] at s;have B:=hid (V7_ ((Hb0.out.cell (p:=⟨c.block,c.off+1,none⟩) k).trans s) (show c.block<_ from Nat.lt_of_lt_of_le k Hb0.out.size));have Z:((l.length:Int)==2)=true:=by simp [E]
 have x4:IntKind.i64.wrap (a - 1)=a - 1:=y41_;have x0:(1:Int)<(l.length:Int):=y40_;have x1:(0:Int)<(l.length:Int):=y40_;have x2:0<l.length:=y40_;have x3:1<l.length:=y40_;obtain ⟨d,hW0⟩:∃ d,d=w.alloc (.cells #[.int .i64 2,.int .i64 n,.int .i64 a,.int .i64 0,.slice (some c) l.length cl,.slice h 0 j] 25):=⟨_,rfl⟩;have F:d.heap.size=w.heap.size+1:=z42_;have J:=hid hW0;have L:=(Blk.new w 25 #[.int .i64 2,.int .i64 n,.int .i64 a,.int .i64 0,.slice (some c) l.length cl,.slice h 0 j]).cell 0;rw [← hW0] at Hb0 m o C z B L;rw [← F] at m;have K:Hid (∀ W,Below d.heap.size d W→Calls Tryz.prog 110 #[I,.int .i64 n,.int .i64 (a - 1)] W fun e w'=>e=.returned (.bool false)∧Below d.heap.size d w'):=fun W g =>
  (B5_ n (a - 1) I H W (o.out.up g)).mono fun _ _ ⟨h2,h3⟩=>⟨by rw [h2,Int.sub_add_cancel,D],Z0_ g (le_refl _) h3⟩
 subst O P;clear G u x y r s D E F o C
 go_enter Tryz.func81,Tryz.ntmps81
 go_wp2;rw [← J.out];clear hW0;refine Z6_ d.heap.size d z40_ z40_ (Below.refl _ _) ?_
 repeat (first
   | go_big_quiet_step (with_reducible exact K.out _)
   | (go_big_quiet_want;apply Exists.intro;refine ⟨fun W g=>?_,?_⟩;(· have q:=m.out W g;have q1:=q 1;have q2:=q 2;have q4:=q 4;have q0:=q 0;clear q;have H:=z.out W g;have Q:=B.out W g;go_simp;first | exact rfl | exact ⟨rfl,rfl⟩);go_simp;go_big_quiet_on))
 exact k2_
open Go.RowKit
theorem Va3 {l:List (List Int)} {a:Int} {i:Nat} (c:i<l.length) (h:edgeB a (l.getD i [])=true):l.any (edgeB a)=true :=
 List.any_eq_true.2 ⟨l[i],List.getElem_mem c,by simpa [List.getD,c] using h⟩
theorem Xm3 {l:List (List Int)} {a:Int} (h:∀ i,i<l.length→edgeB a (l.getD i [])=false):l.any (edgeB a)=false:=y11_
theorem Va4 (n a:Int) (l:List (List Int)) (v:Value) (w:World) (S:MatV w w.heap.size v (.mk 1 n a 0 l [])) (x4:l.length≤1000) (ha:0≤a∧a≤64):Calls Tryz.prog 81 #[v] w (Says w (!l.any (edgeB a) && decide (1≤a) && decide ((l.length:Int)=n))):=by
 obtain ⟨lv,iv,rfl,hl,⟨q,B,rfl,_⟩⟩:=S.open;simp only [Mat.t,Mat.n,Mat.a,Mat.b,Mat.l,Mat.i,List.length_nil] at *
 obtain ⟨A,c,rfl,_,P⟩:=hl;have X:=hid P;have U:Hid (Below w.heap.size w (w.alloc (.cells #[.int .i64 1,.int .i64 n,.int .i64 a,.int .i64 0,.slice A l.length c,.slice q 0 B] 25))):=(Below.refl _ w).alloc (le_refl _) _;have G:=hid (Blk.new w 25 #[.int .i64 1,.int .i64 n,.int .i64 a,.int .i64 0,.slice A l.length c,.slice q 0 B]);have x5:(l.length:Int)≤1000:=y40_;have x7:IntKind.i64.wrap (a - 1)=a - 1:=y41_;have g0:=G.out.cell 0;clear S P;obtain ⟨r,D⟩:∃ r,r=l.any (edgeB a):=⟨_,rfl⟩;rw [← D];have H:=hid D;clear D
 go_enter Tryz.func81,Tryz.ntmps81
 go_wp2;clear g0
 go_loopw [3] (fun F wr=>∃ i:Nat,F=.int .i64 i∧i≤l.length∧(∀ j,j<i→edgeB a (l.getD j [])=false)∧Blk wr w.heap.size 25 #[.int .i64 1,.int .i64 n,.int .i64 a,.int .i64 0,.slice A l.length c,.slice q 0 B]∧Below w.heap.size w wr) (fun F _=>l.length - (intOf F).toNat)
 case atStart=>exact ⟨0,rfl,Nat.zero_le _,fun j O=>absurd O (Nat.not_lt_zero _),G.out,U.out⟩
 case round =>
  obtain ⟨i,rfl,hi,R,k,L⟩:=hrel;have Hok:=hid R;have g:=hid L;have m:=hid k;have g1:=k.cell 1;have g2:=k.cell 2;have g4:=k.cell 4;clear R k L;by_cases Q:i<l.length
  ·obtain ⟨ad,u,hA,hab,M,E⟩:=X.out i Q
   subst hA;have x1:=(g.out.cell (p:=ad.add i) x42_).trans M;have x0:=hid ((E.below g.out).mono g.out.size);have Y:=hid (Va3 (a:=a) Q);have Z:Hid (edgeB a (l.getD i [])=false→∀ j,j<i+1→edgeB a (l.getD j [])=false):=by
    intro hb j O;exact q11_
   generalize l.getD i []=z at *
   obtain ⟨T,cz,rfl,_⟩:=id E;have x6:(i:Int)<(l.length:Int):=y40_;have o:∀ b,numsB z 2 a=b→∀ W,Below wr.heap.size wr W→Calls Tryz.prog 110 #[.slice T z.length cz,.int .i64 2,.int .i64 (a - 1)] W fun e w'=>e=.returned (.bool b)∧Below wr.heap.size wr w':=fun b hb W d =>
    (B5_ 2 (a - 1) _ z W (x0.out.up d)).mono fun _ _ ⟨h2,h3⟩=>⟨by rw [h2,Int.sub_add_cancel,hb],Z0_ d (le_refl _) h3⟩
   have I:=hid (V7_ g2 m.out.lt);have J:=hid (V7_ g4 m.out.lt);have K:=hid (V7_ x1 (by rw [Z2_];exact Nat.lt_of_lt_of_le hab g.out.size));clear E M hab;rcases hz:numsB z 2 a with _ | _
   ·have x:=hid (o false hz)
    clear o;have y:Hid (r=true):=H.out.trans (Y.out (by unfold edgeB;rw [hz];rfl));obtain rfl:=y.out;clear hz;go_wp2;refine Z6_ wr.heap.size wr z40_ z40_ (Below.refl _ _) ?_
    iterate 10 (first
     | go_big_quiet_step (with_reducible exact x.out _)
     | (go_big_quiet_want;apply Exists.intro;refine ⟨fun W d=>?_,?_⟩;(· have q2:=I.out W d;have q4:=J.out W d;have r0:=K.out W d;go_simp;first | exact rfl | exact ⟨rfl,rfl⟩);go_simp;go_big_quiet_on))
    refine wpQuiet_nil ?_;intro w1 h;have s:=hid (Z0_ g.out (le_refl _) h);clear h;go_wp2;go_ret;exact ⟨k40_,s.out⟩
   ·have x:=hid (o true hz)
    clear o;have Hw:Hid (edgeB a z=false):=by show edgeB a z=false;unfold edgeB;rw [hz];rfl
    clear hz;go_wp2;refine Z6_ wr.heap.size wr z40_ z40_ (Below.refl _ _) ?_
    iterate 10 (first
     | go_big_quiet_step (with_reducible exact x.out _)
     | (go_big_quiet_want;apply Exists.intro;refine ⟨fun W d=>?_,?_⟩;(· have q2:=I.out W d;have q4:=J.out W d;have r0:=K.out W d;go_simp;first | exact rfl | exact ⟨rfl,rfl⟩);go_simp;go_big_quiet_on))
    refine wpQuiet_nil ?_;intro w1 h;have s:=hid (Z0_ g.out (le_refl _) h);have V:=hid (m.out.below h m.out.lt);clear h;go_wp2
    go_roundw
    case rel=>exact ⟨i+1,j41_,y40_,Z.out Hw.out,V.out,s.out⟩
    exact mz_
  ·have N:i=l.length:=by omega
   have Hie:=hid N;have y:Hid (r=false):=H.out.trans (Xm3 y49_);obtain rfl:=y.out;obtain rfl:=N;by_cases C:1≤a
   ·rw [decide_eq_true C]
    go_wp2;go_ret;refine ⟨?_,g.out⟩;by_cases hl:(l.length:Int)=n<;>simp [hl]
   ·have x2:a<1:=by omega
    rw [decide_eq_false C];clear C;go_wp2;go_ret;refine ⟨?_,g.out⟩;simp;intro x3;omega
theorem Va5 (n a:Int) (l:List (List Int)) (v:Value) (w:World) (d:MatV w w.heap.size v (.mk 2 n a 0 l [])) (c:l.length=2) (ha:0≤a∧a≤64):Calls Tryz.prog 81 #[v] w (Says w (numsB (l.getD 0 []) n a && numsB (l.getD 1 []) a 65)):=by
 rcases h0:numsB (l.getD 0 []) n a with _ | _
 ·exact Xm2 n a l v w d c ha h0
 ·rcases h1:numsB (l.getD 1 []) a 65 with _ | _
  ·exact Xj8 n a l v w d c ha h0 h1
  ·exact Xj7 n a l v w d c ha h0 h1
theorem Xm4 (n a:Int) (l:List (List Int)) (v:Value) (w:World) (m:MatV w w.heap.size v (.mk 2 n a 0 l [])) (s:l.length≠2):Calls Tryz.prog 81 #[v] w (Says w false):=by
 obtain ⟨z,y,rfl,⟨e,cl,rfl,_⟩,⟨d,g,rfl,_⟩⟩:=m.open;simp only [Mat.t,Mat.n,Mat.a,Mat.b,Mat.l,Mat.i,List.length_nil] at *
 have Hb0:Hid (Below w.heap.size w (w.alloc (.cells #[.int .i64 2,.int .i64 n,.int .i64 a,.int .i64 0,.slice e l.length cl,.slice d 0 g] 25))):=(Below.refl _ w).alloc (le_refl _) _;have h:=hid (K1_ (w:=w) (t := 25) (cs:=#[.int .i64 2,.int .i64 n,.int .i64 a,.int .i64 0,.slice e l.length cl,.slice d 0 g]));obtain ⟨L,j⟩:∃ L:Int,L=(l.length:Int):=⟨_,rfl⟩;have x:(L==2)=false:=x41_;obtain ⟨c,hW0⟩:∃ c,c=w.alloc (.cells #[.int .i64 2,.int .i64 n,.int .i64 a,.int .i64 0,.slice e l.length cl,.slice d 0 g] 25):=⟨_,rfl⟩;have k:c.heap.size=w.heap.size+1:=z42_;have o:=hid hW0;have p:=(Blk.new w 25 #[.int .i64 2,.int .i64 n,.int .i64 a,.int .i64 0,.slice e l.length cl,.slice d 0 g]).cell 0;rw [← hW0] at Hb0 h p;rw [← k] at h;have u:((l.length:Nat):Int)=L:=j.symm;clear m s k j
 go_enter Tryz.func81,Tryz.ntmps81
 go_wp2;rw [← o.out];clear hW0;refine Z6_ c.heap.size c z40_ z40_ (Below.refl _ _) ?_
 iterate 26 (first
   | go_big_quiet_skip
   | (go_big_quiet_want;apply Exists.intro;refine ⟨fun W r=>?_,?_⟩;(· have q:=h.out W r;have q1:=q 1;have q2:=q 2;have q4:=q 4;have q0:=q 0;clear q;go_simp;first | exact rfl | exact ⟨rfl,rfl⟩);go_simp;go_big_quiet_on))
 exact k2_
theorem Va6 (n a b:Int) (l:List (List Int)):F7_ (.mk 4 n a b l [])=(decide ((l.length:Int)=n) && elimB b a l):=j43_
theorem Va7 (n a:Int) (l:List (List Int)):F7_ (.mk 0 n a 0 l [])=(decide (a≤n) && decide (l.length=0)):=j43_
theorem Va8 (n a:Int) (l:List (List Int)):F7_ (.mk 1 n a 0 l [])=(!l.any (edgeB a) && decide (1≤a) && decide ((l.length:Int)=n)):=by rw [Bool.eq_iff_iff];simp [F7_,Mat.t,Mat.n,Mat.a,Mat.b,Mat.l,Mat.i];exact ⟨fun ⟨⟨c,h2⟩,h3⟩=>⟨⟨c,of_decide_eq_true h2⟩,of_decide_eq_true h3⟩,fun ⟨⟨c,h2⟩,h3⟩=>⟨⟨c,decide_eq_true h2⟩,decide_eq_true h3⟩⟩
theorem Va9 (n a:Int) (l:List (List Int)):F7_ (.mk 2 n a 0 l [])=(decide (l.length=2) && numsB (l.getD 0 []) n a && numsB (l.getD 1 []) a 65):=by rw [Bool.eq_iff_iff];simp [F7_,row,Mat.t,Mat.n,Mat.a,Mat.b,Mat.l,Mat.i];exact fun _ _=>decide_eq_true_iff
theorem Vb0 (n a:Int) (l:List (List Int)):F7_ (.mk 3 n a 0 l [])=(decide ((l.length:Int)=n) && mayM a l):=j43_
theorem Xj9 (t n a:Int) (l:List (List Int)) (h:t<0∨4<t):F7_ (.mk t n a 0 l [])=false:=by
 have c:t≠0:=y40_;have d:t≠1:=y40_;have h2:t≠2:=y40_;have h3:t≠3:=y40_;have e:t≠4:=y40_;simp [F7_,Mat.t,Mat.b,Mat.i,c,d,h2,h3,e]
theorem Xq0 (m:Mat) (v:Value) (w:World) (c:MatV w w.heap.size v m) (hs:Sml m) (h2:0≤m.n∧m.n≤64∧0≤m.a∧m.a≤64) (j:¬ nest m.t):Calls Tryz.prog 81 #[v] w (Says w (decide (bad m=0))):=by
 rw [← Xm1 h2 j];by_cases g:0<m.i.length
 ·rw [show F7_ m=false from if_pos (.inl g)]
  exact Yq7 m v w c g
 by_cases hb:m.t≠4∧m.b≠0
 ·rw [show F7_ m=false from if_pos (.inr hb)]
  exact Vq9 m v w c y40_ hb.1 hb.2
 have h:=sml_l hs;obtain ⟨t,n,a,b,l,i⟩:=m;change 0≤n∧n≤64∧0≤a∧a≤64 at h2;change ¬ 0<i.length at g;change ¬ (t≠4∧b≠0) at hb;change ¬ (5≤t∧t≤9) at j;change l.length≤1000 at h;obtain rfl:i=[]:=List.length_eq_zero_iff.1 y40_;by_cases k:t=4
 ·subst k
  rw [Va6];exact Va2 n a b l v w c
 have o:b=0:=by
  by_cases e:b=0
  ·exact e
  ·exact absurd ⟨k,e⟩ hb
 subst o;by_cases p:t=0
 ·subst p;rw [Va7];exact Va0 n a l v w c
 by_cases q:t=1
 ·subst q;rw [Va8];exact Va4 n a l v w c h ⟨h2.2.2.1,h2.2.2.2⟩
 by_cases r:t=2
 ·subst r
  rw [Va9];by_cases d:l.length=2
  ·rw [decide_eq_true d,Bool.true_and];exact Va5 n a l v w c d ⟨h2.2.2.1,h2.2.2.2⟩
  ·rw [decide_eq_false d,Bool.false_and,Bool.false_and];exact Xm4 n a l v w c d
 by_cases s:t=3
 ·subst s;rw [Vb0];exact Va1 n a l v w c
 ·rw [Xj9 t n a l y40_]
  exact Xj6 t n a l v w y40_ c
end Go.Proofs.YtigobiacbficaaaGreatDoor.Wp
