/- UnionUniform, walked: it answers true (written by gen_uuni.py). -/
import Derived.Test.YtheeajnkiniopaaGreatDoorUFx16
import Derived.Test.YtheeajnkiniopaaGreatDoorUAll
import Derived.Test.YtheeajnkiniopaaGreatDoorUApp
import Derived.Test.YtheeajnkiniopaaGreatDoorX0A
import Derived.Test.YtheeajnkiniopaaGreatDoorX0B
set_option maxHeartbeats 16000000
set_option maxRecDepth 100000
open Go.Lib (hid)
open Nat (le_refl)
namespace Go.Proofs.YtheeajnkiniopaaGreatDoor.Wp
open Go Go.RowKit
def uniL (n:Int) (l:List Int) (i:Nat):List Mat:=(l.take i).map (unU n)
def Zl2 (l:List Int) (i:Nat):Int:=(l.take i).sum
theorem Xo4 {n:Int} {l:List Int} {i:Nat} (h:i<l.length):uniL n l (i+1)=uniL n l i ++ [unU n (l.getD i 0)]:=by
 unfold uniL;rw [List.take_succ_eq_append_getElem h,List.map_append];simp [List.getD,h]
theorem Yg9 {l:List Int} {i:Nat} (h:i<l.length):Zl2 l (i+1)=Zl2 l i+l.getD i 0:=by
 unfold Zl2;rw [List.take_succ_eq_append_getElem h,List.sum_append];simp [List.getD,h]
theorem Zs2 {n:Int} {l:List Int} {i:Nat} (h:i≤l.length):(uniL n l i).length=i:=by simp [uniL];omega
theorem Xo5:∀ {l:List Int},(∀ x∈l,0≤x)→(((l.map Int.toNat).sum:Nat):Int)=l.sum
 | [],_=>rfl
 | a :: r,h=>by
  have c:=h a j37_;have d:=Xo5 (l:=r) fun x hx=>h x x41_;rw [List.map_cons,List.sum_cons,List.sum_cons];omega
theorem Xo6 {n:Int} {l:List Int} (c:1≤l.length) (g:l.length≤5) (h:n≤12) (hl:∀ x∈l,0≤x∧x≤n):sevB (l.map (unU n))=true∧nN ((l.map (unU n)).getD 0 default)=n.toNat:=by
 obtain ⟨a,r,rfl⟩:∃ a r,l=a :: r:=by
  cases l with
  | nil=>simp at c
  | cons a r=>exact ⟨a,r,rfl⟩
 refine ⟨?_,rfl⟩;unfold sevB;rw [List.length_map,decide_eq_true c,decide_eq_true (show (a :: r).length≤8 by omega),Bool.true_and,Bool.true_and,Bool.not_eq_true',List.any_eq_false];intro x e;obtain ⟨z,f,rfl⟩:=List.mem_map.1 e;have d:=hl z f;unfold oddM;rw [Zr9 d.1 d.2 x37_];show ¬ (!(n==n) || !((0:Int)==0))=true;simp
theorem Vb7 {n:Int} {l c u:List Int} (f:1≤l.length) (j:l.length≤5) (q:0≤n) (m:n≤12) (hl:∀ x∈l,0≤x∧x≤n) (d:MaxU (l.map (unU n)) (nN ((l.map (unU n)).getD 0 default)) c u) :
  (c.length:Int)=n∧n - ((Z3_ c (-1)).length:Int)=min l.sum n∧B4_ (l.map (unU n)) u=min l.sum n∧Cls (l.map (unU n)) c:=by
 obtain ⟨g,h⟩:=Xo6 f j m hl;have e:=(sev_iff.1 g).1;have k:=K6_ e d;have hb:=Yj9 g d;have o:((l.map (unU n)).getD 0 default).n=n:=by
  cases l with
  | nil=>simp at f
  | cons a r=>rfl
 rw [h] at e d;have s:=Vp9 (N:=n) rfl e d;have hs:=Xo5 fun x p=>(hl x p).1;have hc:=(R9_ e d).1;rw [o] at hb;refine ⟨x37_,?_,?_,k.1⟩
 ·omega
 ·rw [hb]
  omega
theorem un_0 (E:Nat→Addr) (n:Int) (v:Value) (l:List Int) (w:World) (hr:Row w w.heap.size v l) (hE:Env E w)  (c:n<0):Calls Tryz.prog 6 #[.int .i64 n,v] w (Truly w):=x1_
theorem un_1 (E:Nat→Addr) (n:Int) (v:Value) (l:List Int) (w:World) (hr:Row w w.heap.size v l) (hE:Env E w) (c:¬ n<0) (d:12<n):Calls Tryz.prog 6 #[.int .i64 n,v] w (Truly w):=x1_
theorem un_2 (E:Nat→Addr) (n:Int) (v:Value) (l:List Int) (w:World) (hr:Row w w.heap.size v l) (hE:Env E w) (c:¬ n<0) (d:¬ 12<n) (g:l.length<1):Calls Tryz.prog 6 #[.int .i64 n,v] w (Truly w):=by
 have h:(l.length:Int)<1:=x37_;exact x1_
theorem un_3 (E:Nat→Addr) (n:Int) (v:Value) (l:List Int) (w:World) (hr:Row w w.heap.size v l) (hE:Env E w) (c:¬ n<0) (d:¬ 12<n) (_h2:¬ l.length<1) (h3:5<l.length):Calls Tryz.prog 6 #[.int .i64 n,v] w (Truly w):=by
 have g:(5:Int)<(l.length:Int):=x37_;have h:¬ (l.length:Int)<1:=x37_;exact x1_
theorem Vr9 (E:Nat→Addr) (n:Int) (v:Value) (l:List Int) (w:World) (hr:Row w w.heap.size v l) (hE:Env E w) (xx:0≤n) (hn:n≤12) (h1:1≤l.length) (h5:l.length≤5):Calls Tryz.prog 6 #[.int .i64 n,v] w (Truly w):=by
 have i0:¬ n<0:=x37_;have i1:¬ 12<n:=x37_;have i2:¬ (l.length:Int)<1:=x37_;have i3:¬ (5:Int)<(l.length:Int):=x37_;have i4:(l.length:Int)≤5:=x37_;have H1:=hid h1;have H5:=hid h5;have xp:=hid xx;have C:=hid hn;have y0:=hid hr;have H:=hid hE;have HR:=hid hr;have x5:=hid (Below.refl w.heap.size w);obtain ⟨Al,cl,rfl,-⟩:=id hr;clear hE hr
 go_enter Tryz.func6,Tryz.ntmps6
 go_wp2_with fail
 refine (Y5_ E _ H.out).mono ?_;rintro e d ⟨rfl,Z⟩;replace H:=hid (H.out.up Z);replace HR:=hid (HR.out.up Z);replace x5:=hid (Z0_ x5.out (le_refl _) Z);clear Z;obtain ⟨X,Y⟩:∃ X,X=d.alloc (.cells #[] 37):=⟨_,rfl⟩;have HX:=hid Y;have xu:Below d.heap.size d X:=by rw [Y];exact (Below.refl _ d).alloc (le_refl _) _
 have x6:=hid xu;have x7:Hid (X.ownsRow d.heap.size 37 6 (.slice (some ⟨d.heap.size,0,none⟩) 0 0) 0 (flat6 (fun _=>List.replicate 6 (.int .i64 0)) 0)):=hid (by
  have h:=World.ownsRow_lit (base:=d.heap.size) (e := 37) (size:=6) d #[] 0 (le_refl _) z38_ rfl;rw [Y];exact h)
 have x4:Hid (SixM X d.heap.size (fun _=>List.replicate 6 (.int .i64 0)) (uniL n l 0)):=hid ⟨fun _=>by simp,fun k K=>absurd K (by rw [Zs2 (Nat.zero_le _)];omega)⟩;have xj:=hid x5.out;obtain ⟨B,hB⟩:∃ B,d.heap.size=B:=⟨_,rfl⟩;have F:=hid hB;rw [hB] at x6 x7 x4;clear Y xu hB h1 h5 xx hn
 go_wp2_with fail
 rw [F.out,← HX.out]
 go_loopw [5,6,7] (fun v5 v6 vi wr=>∃ (va:Value) (i:Nat) (s:Int) (S:Nat→List Value),va=v5∧v6=.int .i64 s∧vi=.int .i64 i∧s=Zl2 l i∧i≤l.length∧(∀ x∈l.take i,0≤x∧x≤n)∧wr.ownsRow B 37 6 va i (flat6 S i)∧SixM wr B S (uniL n l i)∧Below B d wr∧0≤s∧s≤12 * (i:Int)) (fun _ _ vi _=>l.length - (intOf vi).toNat)
 case atStart=>exact ⟨_,0,0,_,rfl,rfl,rfl,rfl,Nat.zero_le _,j37_,x7.out,x4.out,x6.out,x37_,x37_⟩
 case round =>
  clear x7 x4 x6 HX;obtain ⟨va,i,s,S,rfl,rfl,rfl,hs,hi,xs,xy,hS,xb,y9,ya⟩:=hrel;have HOwn:=hid xy;have HS6:=hid hS;have G:=hid xb;have O:=hid xs;have Q:=hid hs;have x3:Hid (Below d.heap.size d wr):=hid (by rw [F.out];exact xb);have HBw:Hid (Below w.heap.size w wr):=hid (Z0_ xj.out (le_refl _) x3.out);clear xy hS xb xs hs;by_cases hlt:i<l.length
  ·have yd:(i:Int)<(l.length:Int):=by omega
   obtain ⟨T,hA,x2⟩:=y0.out.nth hlt;subst hA;have q0:=x2 wr HBw.out;have hmem:l.getD i 0∈l:=z39_;have hnx:=Xo4 (n:=n) hlt;have hsx:=Yg9 hlt;have htk:l.take (i+1)=l.take i ++ [l.getD i 0]:=by rw [List.take_succ_eq_append_getElem hlt];simp [List.getD,hlt]
   obtain ⟨x,hx⟩:∃ x,l.getD i 0=x:=⟨_,rfl⟩;rw [hx] at q0 hmem hnx hsx htk x2;have xn:=hid x2;clear x2 hx;by_cases yg:x<0
   ·exact q24_
   ·by_cases yh:n<x
    ·exact q24_
    ·have xw:MatV wr B (.agg #[.int .i64 0,.int .i64 n,.int .i64 x,.int .i64 0,.slice none 0 0,.slice none 0 0]) (unU n x):=O6_ wr B 0 n x 0
     obtain ⟨S',x9,xc⟩:=HS6.out.more _ _ _ _ _ _ _ xw;rw [← hnx] at x9;rw [Zs2 hi] at xc;obtain ⟨W1,q⟩:∃ W1,W1=wr.alloc (.cells #[.int .i64 0,.int .i64 n,.int .i64 x,.int .i64 0,.slice none 0 0,.slice none 0 0] 37):=⟨_,rfl⟩;have xi:=hid q;have x1:Below wr.heap.size wr W1:=by rw [q];exact (Below.refl _ wr).alloc (le_refl _) _
     have P:=hid (I6_ HOwn.out x1);have W:B≤wr.heap.size:=by have:=G.out.size;have:=F.out;omega
     have xk:Hid (Below B d W1):=hid (by rw [q];exact G.out.alloc W _);have xh:=hid (x9.below (by rw [q];exact (Below.refl B wr).alloc W _:Below B wr W1));have xv:Blk W1 wr.heap.size 37 #[.int .i64 0,.int .i64 n,.int .i64 x,.int .i64 0,.slice none 0 0,.slice none 0 0]:=by rw [q];exact Blk.new wr _ _
     have xm:Hid (∀ T,some (⟨wr.heap.size,0,none⟩:Addr)=some T→∀ j u,([.int .i64 0,.int .i64 n,.int .i64 x,.int .i64 0,.slice none 0 0,.slice none 0 0]:List Value)[j]?=some u→W1.cell? (T.add j)=some u):=hid fun T e j u hj=>by
      obtain rfl:=Option.some.inj e;have e2:(⟨wr.heap.size,0,none⟩:Addr).add j=⟨wr.heap.size,j,none⟩:=q43_;rw [e2,xv.cell j];simpa using hj
     have xq:Hid (∀ u∈([.int .i64 0,.int .i64 n,.int .i64 x,.int .i64 0,.slice none 0 0,.slice none 0 0]:List Value),u.oneCell'=true):=hid fun u hu=>k10_;have M:=hid (show B≤W1.heap.size from Nat.le_trans W x1.size);have xo:=hid xc;have ye:IntKind.i64.wrap (s+x)=s+x:=q38_;have y7:Hid (s+x=Zl2 l (i+1)):=hid (by rw [hsx,Q.out]);have y2:Hid (∀ y∈l.take (i+1),0≤y∧y≤n):=hid fun y r=>by
      rw [htk,List.mem_append] at r;rcases r with r | r
      ·exact O.out y r
      ·simp at r
       subst r;exact ⟨x37_,x37_⟩
     have Hi:=hid (show i≤1048576 by omega);have xr:=hid (show 0≤s+x∧s+x≤12 * ((i+1:Nat):Int) by have:=C.out;omega);have q1:=xn.out W1 (Z0_ HBw.out (le_refl _) x1);rw [q] at q1;clear xw x9 xc hnx hsx htk hmem q x1 xv HS6 HOwn G W Q O y9 ya
     go_wp2_with (at_builtin;rw [← xi.out];refine C5_ rfl _ _ rfl B i 1 _ (flat6 S i) [.int .i64 0,.int .i64 n,.int .i64 x,.int .i64 0,.slice none 0 0,.slice none 0 0] (some ⟨wr.heap.size,0,none⟩) 1 rfl rfl P.out rfl xm.out xq.out (fun e=>by cases e) Hi.out x37_ M.out ?_)
     intro v' W2 xg xd;rw [← xo.out] at xg;have xl:=hid (xk.out.grown xd M.out (fun k K=>(P.out.lt k K).1));have y5:=hid xg;have y1:=hid (xh.out.below ((Below.refl B _).grown xd M.out fun k K=>(P.out.lt k K).1));have q2:=xn.out W2 (Z0_ xj.out (le_refl _) (by rw [F.out];exact xl.out));clear xg xd P xh xk xm xq xi xo M q0 q1;go_wp2
     go_roundw
     case rel=>exact ⟨_,i+1,s+x,S',rfl,y38_,y38_,y7.out,x37_,y2.out,y5.out,y1.out,xl.out,xr.out.1,xr.out.2⟩
     exact mz_
  ·have xe:i=l.length:=by omega
   have yc:¬ (i:Int)<(l.length:Int):=x37_;have xa:∀ x∈l,0≤x∧x≤n:=fun x hx=>O.out x (by rw [xe,List.take_length];exact hx);have g:Hid (MatL wr wr.heap.size va (l.map (unU n))):=hid (by
    have h:=T8_ (i:=uniL n l i) (by rw [Zs2 x37_];exact HOwn.out) HS6.out (by have:=G.out.size;have:=F.out;omega)
    rwa [show uniL n l i=l.map (unU n) by unfold uniL;rw [xe,List.take_length]] at h)
   have xz:s=l.sum:=by rw [Q.out,xe];unfold Zl2;rw [List.take_length]
   have y6:=hid xz;have x8:Hid (∀ m∈l.map (unU n),Sml m):=hid fun m hm=>by
    obtain ⟨z,_,rfl⟩:=List.mem_map.1 hm;exact K3_ ..
   have R:=hid (Xo6 H1.out H5.out C.out xa);have p:=hid (H.out.up x3.out);have y4:=hid xa;clear HOwn HS6 G O Q xa xz H x3
   go_wp2_with fail
   refine (T6_ E (l.map (unU n)) _ _ g.out x8.out p.out R.out.1).mono ?_;rintro e w5 ⟨vc,vu,c,u,rfl,hc,hu,x0,xf⟩;obtain ⟨f1,U,V,f4⟩:=Vb7 H1.out H5.out xp.out C.out y4.out xf;have Hu:=hid (K6_ (sev_iff.1 R.out.1).1 xf).2.2.1;have N:=hid hc;have I:=hid hu;have y3:=hid f4;replace g:=hid (g.out.up x0);replace p:=hid (p.out.up x0);replace HBw:=hid (Z0_ HBw.out (le_refl _) x0);rw [← y6.out] at U V;obtain ⟨t,L⟩:∃ t,min s n=t:=⟨_,rfl⟩;rw [L] at U V;have F1:=hid f1;have F2:=hid U;have F3:=hid V;have yb:(if s≤n then s else n)=t:=by rw [← L];omega
   have Ht:=hid L;clear hc hu x0 xf f1 U V f4 L yb
   go_wp2_with fail
   refine (Zg4 (l.map (unU n)) _ _ c _ g.out x8.out N.out y3.out).mono ?_;rintro e w6 ⟨rfl,D⟩;replace g:=hid (g.out.up D);replace p:=hid (p.out.up D);replace N:=hid (N.out.up D);replace I:=hid (I.out.up D);replace HBw:=hid (Z0_ HBw.out (le_refl _) D);clear D
   go_wp2_with fail
   refine (B3_ _ c (-1) _ N.out (by have:=F1.out;have:=C.out;omega)).mono ?_;rintro e w7 ⟨vk,rfl,y8,J⟩;obtain ⟨Ak,ck,rfl,-⟩:=y8;replace g:=hid (g.out.up J);replace p:=hid (p.out.up J);replace I:=hid (I.out.up J);replace HBw:=hid (Z0_ HBw.out (le_refl _) J);obtain ⟨o,ho⟩:∃ o,(Z3_ c (-1)).length=o:=⟨_,rfl⟩;rw [ho];have yf:IntKind.i64.wrap (n - (o:Int))=t:=by
    have h:=F2.out;rw [ho] at h;have:=C.out;have:=xp.out;rw [h,IntKind.wrap_i64];have:=H2_ c (-1);have:=F1.out;omega
   have L:=Ht.out;clear J ho
   go_wp2_with fail
   refine (G3_ E (l.map (unU n)) _ _ u _ g.out x8.out I.out (by have:=Y4_ Hu.out;rw [R.out.2] at this;have:=C.out;omega) p.out (Xo7 (sev_iff.1 R.out.1).1 Hu.out)).mono ?_;rintro e w8 ⟨rfl,xt⟩;rw [F3.out];replace HBw:=hid (Z0_ HBw.out (le_refl _) xt);clear xt;go_wp2;go_ret;exact ⟨rfl,HBw.out⟩
theorem UnionUniform_any (E:Nat→Addr) (n:Int) (v:Value) (l:List Int) (w:World) (d:Row w w.heap.size v l) (c:Env E w):Calls Tryz.prog 6 #[.int .i64 n,v] w (Truly w):=by
 by_cases e:n<0
 ·exact un_0 E n v l w d c e
 by_cases g:12<n
 ·exact un_1 E n v l w d c e g
 by_cases h:l.length<1
 ·exact un_2 E n v l w d c e g h
 by_cases h3:5<l.length
 ·exact un_3 E n v l w d c e g h h3
 exact Vr9 E n v l w d c x37_ x37_ x37_ x37_
end Go.Proofs.YtheeajnkiniopaaGreatDoor.Wp
