/- What the document's independence goes by, as lists (VIndD). The document's count, shifted and matched of layer 10, walked. The document's base of layer 10, walked: over any answer of its indep. -/
import Derived.Test.YteiejkhdonmcdaaGreatDoorZA
import Derived.Test.YteiejkhdonmcdaaGreatDoorZO
import Derived.Test.YteiejkhdonmcdaaGreatDoorZW
import Derived.Test.YteiejkhdonmcdaaGreatDoorIRank
import Derived.Deep.RegionHeld3
import Derived.Test.YteiejkhdonmcdaaGreatDoorZR
import Derived.Test.YteiejkhdonmcdaaGreatDoorZT
import Derived.Deep.Slices
import Derived.Test.YteiejkhdonmcdaaGreatDoorX0A
import Derived.Test.YteiejkhdonmcdaaGreatDoorX0B
set_option maxHeartbeats 8000000
set_option maxRecDepth 100000
open Go.Lib (hid)
open Nat (le_refl)
namespace Go.Proofs.YteiejkhdonmcdaaGreatDoor.Wp
open Go Go.RowKit
def baseL (I:List Int→Bool):List Int→List Int→List Int
 | out,[]=>out
 | out,x :: r=>baseL I (if I (Y1_ out [x])=true then out ++ [x] else out) r
def cntC (cl s:List Int) (c:Int):Nat:=(s.filter fun x=>cl.getD x.toNat 0==c).length
def G4_ (l:List (List Int)):List Int→List Int→Bool
 | [],_=>true
 | x :: s,used=>(Z5_ (l.getD x.toNat []) used).any fun r=>G4_ l s (Y1_ used [r])
theorem Xf6 {cl s:List Int} {c:Int} {k:Nat} (d:k<s.length):cntC cl (s.take (k+1)) c=cntC cl (s.take k) c+if cl.getD (s.getD k 0).toNat 0=c then 1 else 0:=by
 unfold cntC;rw [List.take_succ_eq_append_getElem d,List.filter_append,List.length_append,show s[k]=s.getD k 0 by simp [List.getD,d]];congr 1;rw [List.filter_cons];by_cases h:cl.getD (s.getD k 0).toNat 0=c
 ·rw [if_pos h,if_pos (by rw [h];exact beq_self_eq_true c)];rfl
 ·rw [if_neg h,if_neg z43_];rfl
theorem Vg7 (cl s:List Int) (c:Int):cntC cl s c≤s.length:=List.length_filter_le _ _
end Go.Proofs.YteiejkhdonmcdaaGreatDoor.Wp
namespace Go.Proofs.YteiejkhdonmcdaaGreatDoor
open Go Go.RowKit
namespace Wp
theorem Row.nthV {w:World} {B:Nat} {A:Option Addr} {n c:Nat} {l:List Int} (h:Row w B (.slice A n c) l) {k:Nat} (hk:k<l.length):∃ ad,A=some ad∧∀ W,Below B w W→W.cell? (ad.add k)=some (.int .i64 (l.getD k 0)):=q8_
theorem Xf7 (x z:Value) (cl s:List Int) (c:Int) (w:World) (hc:Row w w.heap.size x cl) (hs:Row w w.heap.size z s) (v:∀ k,k<s.length→0≤s.getD k 0∧s.getD k 0<(cl.length:Int)) (V:s.length≤64) :
  Calls Tryz.prog 103 #[x,z,.int .i64 c] w (Tells w (cntC cl s c:Nat)):=by
 have B:=hid hc;have C:=hid hs;have E:=hid v;have U:(s.length:Int)≤64:=q39_;obtain ⟨J,O,rfl,_⟩:=hc;obtain ⟨K,cs,rfl,_⟩:=hs;clear v
 go_enter Tryz.func103,Tryz.ntmps103
 go_wp2
 go_loopw [7,8] (fun I o wr=>∃ k:Nat,o=.int .i64 (k:Int)∧k≤s.length∧I=.int .i64 (cntC cl (s.take k) c:Nat)∧Below w.heap.size w wr) (fun _ o _=>s.length - (intOf o).toNat)
 case atStart=>exact ⟨0,rfl,Nat.zero_le _,by rw [List.take_zero];rfl,Below.refl _ _⟩
 case round =>
  obtain ⟨k,rfl,S,rfl,q⟩:=hrel;have e:=hid q;clear q;by_cases j:k<s.length
  ·have T:(k:Int)<(s.length:Int):=by omega
   obtain ⟨M,hA,u⟩:=Row.nthV C.out j;subst hA;have gs:=u _ e.out;have m:=E.out k j;have d:=hid (Xf6 (cl:=cl) (c:=c) j);have H:=Vg7 cl (s.take k) c;rw [List.length_take] at H;obtain ⟨X,p⟩:∃ X:Nat,s.getD k 0=(X:Int):=⟨(s.getD k 0).toNat,q39_⟩;rw [p] at gs m d;rw [show ((X:Int)).toNat=X from rfl] at d;obtain ⟨L,F,r⟩:=Row.nthV B.out (k:=X) q39_;subst F;have P:=r _ e.out;generalize cl.getD X 0=y at *
   generalize cntC cl (s.take k) c=N at *
   have Q:(N:Int)≤64:=q39_;have R:(X:Int)<(cl.length:Int):=m.2;clear u r p m;by_cases g:y=c
   ·have h:Hid (cntC cl (s.take (k+1)) c=N+1):=hid (by rw [d.out,if_pos g])
    clear d;subst g;go_wp2
    go_roundw
    case rel=>exact ⟨k+1,j40_,q39_,by rw [h.out];go_num,e.out⟩
    case measure=>simp [intOf];omega
   ·have h:Hid (cntC cl (s.take (k+1)) c=N):=hid (by rw [d.out,if_neg g,Nat.add_zero])
    have W:(y==c)=false:=by simpa using g
    clear d;go_wp2
    go_roundw
    case rel=>exact ⟨k+1,j40_,q39_,by rw [h.out],e.out⟩
    case measure=>simp [intOf];omega
  ·have G:k=s.length:=by omega
   subst G;have D:Hid (s.take s.length=s):=hid List.take_length;rw [D.out];go_wp2;go_ret;exact ⟨rfl,e.out⟩
theorem Row.oneV {w:World} {B:Nat} {A:Option Addr} {n c:Nat} {l:List Int} (h:Row w B (.slice A n c) l) {i:Nat} (j:i<l.length):∃ d,A=some d∧n=l.length∧i<c∧Row w B (.slice (some (d.add i)) 1 (c - i)) [l.getD i 0]:=by
 obtain ⟨p,q,g,⟨r,s,h3⟩,m⟩:=h;injection g with e1 e2 e3;subst e1 e2 e3;obtain ⟨d,rfl,f,hc⟩:=m i j;refine ⟨d,rfl,rfl,q39_,_,_,rfl,⟨by simp;omega,q39_,fun e=>by cases e⟩,fun k o=>?_⟩;have:k=0:=by simpa using o
 subst this;exact ⟨_,rfl,by rw [Z2_];exact f,by rw [add_zero];exact hc⟩
theorem Yd7 (e:Value) (s:List Int) (f n:Int) (w:World) (h:Row w w.heap.size e s) (hs:∀ k,k<s.length→0≤s.getD k 0∧s.getD k 0≤64) (o:0≤f∧f≤1000) (q:0≤n∧n≤1000) (u:s.length≤64) :
  Calls Tryz.prog 86 #[e,.int .i64 f,.int .i64 n] w (Gives w (betL s f n)):=by
 obtain ⟨m,cs,rfl,_,d⟩:=h;have Hsk:=hid d;have Hs:=hid hs;have r:(s.length:Int)≤64:=q39_;have v:IntKind.i64.wrap (f+n)=f+n:=q40_;have hown0:(w.alloc (.cells #[] 3)).ownsRow w.heap.size 3 1 (.slice (some ⟨w.heap.size,0,none⟩) 0 0) ([]:List Int).length (ints []) :=
  World.ownsRow_made w #[] 0 (le_refl _) z40_ rfl
 have g:Below w.heap.size w (w.alloc (.cells #[] 3)):=(Below.refl _ w).alloc (le_refl _) _;clear d hs
 go_enter Tryz.func86,Tryz.ntmps86
 go_wp2
 go_loopw [7,8] (fun j c wr=>∃ k:Nat,c=.int .i64 k∧k≤s.length∧wr.ownsRow w.heap.size 3 1 j (betL (s.take k) f n).length (ints (betL (s.take k) f n))∧Below w.heap.size w wr) (fun _ c _=>s.length - (intOf c).toNat)
 case atStart=>exact ⟨0,rfl,Nat.zero_le _,hown0,g⟩
 case round =>
  exact j1_
open Go Go.RowKit
theorem Xw9 {n:Nat} (e:n≤64) {x:Int} (d:0≤x∧x<(n:Int)):InN n [x]:=⟨⟨j39_,fun z c=>by rw [List.mem_singleton.1 c];exact ⟨q39_,q39_⟩⟩,fun z c=>by rw [List.mem_singleton.1 c];exact d⟩
theorem Vg8 {n:Nat} (c:n≤64) {out:List Int} {x:Int} (ho:InN n out) (d:0≤x∧x<(n:Int)) (hlt:∀ y∈out,y<x):InN n (out ++ [x])∧InN n (Y1_ out [x]):=by
 have h1:=Xw9 c d;refine ⟨⟨⟨?_,fun y hy=>?_⟩,fun y hy=>?_⟩,⟨B0_ _ _,fun y hy=>?_⟩⟩
 ·exact k21_
 ·exact q26_
 ·rcases List.mem_append.1 hy with hy | hy
  ·exact ho.2 y hy
  ·exact h1.2 y hy
 ·rcases (V8_ ho.1 h1.1 y).1 hy with hy | hy
  ·exact ho.2 y hy
  ·exact h1.2 y hy
theorem Xf8 {s:List Int} {k:Nat} (c:k<s.length):s.drop k=s.getD k 0 :: s.drop (k+1):=by
 rw [List.drop_eq_getElem_cons c];simp [List.getD,c]
theorem Zq5 (n:Nat) (hn:n≤64) (I:List Int→Bool) (m c1 c2 c3 c4 c5 sv:Value) (s:List Int) (w:World) (hs:InN n s) (y3:s.length≤64) (U:Row w w.heap.size sv s)
  (Z:∀ (t:List Int) (v:Value) (W:World),Below w.heap.size w W→InN n t→Row W W.heap.size v t→Calls Tryz.prog 61 #[.agg #[m,c1,c2,c3,c4,c5],v] W (Says W (I t))) :
  Calls Tryz.prog 64 #[.agg #[m,c1,c2,c3,c4,c5],sv] w (Gives w (baseL I [] s)):=by
 have HS:=hid hs;have xh:=hid Z;have y2:(s.length:Int)≤64:=q39_;obtain ⟨d,hW0⟩:∃ d,d=w.alloc (.cells #[m,c1,c2,c3,c4,c5] 25):=⟨_,rfl⟩;have xn:=hid hW0;have L:Hid (Below w.heap.size w d):=hid j41_;have B:w.heap.size<d.heap.size:=z41_;have HC:Hid (∀ (W:World),Below d.heap.size d W→W.cell? ⟨w.heap.size,0,none⟩=some m∧W.cell? ⟨w.heap.size,1,none⟩=some c1∧W.cell? ⟨w.heap.size,2,none⟩=some c2∧W.cell? ⟨w.heap.size,3,none⟩=some c3∧W.cell? ⟨w.heap.size,4,none⟩=some c4∧W.cell? ⟨w.heap.size,5,none⟩=some c5):=hid fun W o=>by
  have u:=Blk.new w 25 #[m,c1,c2,c3,c4,c5];rw [← hW0] at u;exact ⟨(o.cell (p:=⟨w.heap.size,0,none⟩) B).trans (u.cell 0),(o.cell (p:=⟨w.heap.size,1,none⟩) B).trans (u.cell 1),(o.cell (p:=⟨w.heap.size,2,none⟩) B).trans (u.cell 2),(o.cell (p:=⟨w.heap.size,3,none⟩) B).trans (u.cell 3),(o.cell (p:=⟨w.heap.size,4,none⟩) B).trans (u.cell 4),(o.cell (p:=⟨w.heap.size,5,none⟩) B).trans (u.cell 5)⟩
 have x0:=hid (U.up L.out);obtain ⟨As,cs,rfl,_⟩:=id U;have xc:d.heap.size=w.heap.size+1:=z41_;have x8:(d.alloc (.cells #[] 3)).ownsRow d.heap.size 3 1 (.slice (some ⟨w.heap.size+1,0,none⟩) 0 0) ([]:List Int).length (ints []):=by
  rw [← xc];exact World.ownsRow_made d #[] 0 (le_refl _) z40_ rfl
 have x1:Below d.heap.size d (d.alloc (.cells #[] 3)):=(Below.refl _ d).alloc (le_refl _) _;have xl:=hid x8;have xd:=hid x1;clear Z hs U x8 x1
 go_enter Tryz.func64,Tryz.ntmps64
 go_wp2;rw [← xn.out];clear hW0
 go_loopw [5,6] (fun vo X wr=>∃ (k:Nat) (out:List Int),X=.int .i64 (k:Int)∧k≤s.length∧Hid (baseL I out (s.drop k)=baseL I [] s∧InN n out∧(∀ y∈out,∀ z∈s.drop k,y<z)∧out.length≤k∧wr.ownsRow d.heap.size 3 1 vo out.length (ints out)∧Below d.heap.size d wr)) (fun _ X _=>s.length - (intOf X).toNat)
 case atStart=>exact ⟨0,[],rfl,Nat.zero_le _,by rw [List.drop_zero],⟨X3_,fun x C=>absurd C j39_⟩,fun y j=>absurd j j39_,Nat.zero_le _,xl.out,xd.out⟩
 case round =>
  obtain ⟨k,out,rfl,hk,g⟩:=hrel;by_cases J:k<s.length
  ·have y0:(k:Int)<(s.length:Int):=by omega
   have y4:IntKind.i64.wrap ((k:Int)+1)=(k:Int)+1:=q40_;have R:=(Below.refl wr.heap.size wr).drew;have G:=g.out.2.2.2.2.2;obtain ⟨ad,hA,_,xx,x7⟩:=Row.oneV (x0.out.up G) J;subst hA;obtain ⟨xw,Q,S⟩:=Row.nthV x0.out J;injection Q with Q;subst Q;have T:=x7.up R;have xy:(k:Int)+1≤(cs:Int):=q39_;have K5:Hid (∀ W,Below wr.drew.heap.size wr.drew W→W.cell? ⟨w.heap.size,0,none⟩=some m∧W.cell? ⟨w.heap.size,1,none⟩=some c1∧W.cell? ⟨w.heap.size,2,none⟩=some c2∧W.cell? ⟨w.heap.size,3,none⟩=some c3∧W.cell? ⟨w.heap.size,4,none⟩=some c4∧W.cell? ⟨w.heap.size,5,none⟩=some c5):=hid fun W o=>HC.out W (Z0_ G.drew (le_refl _) o);have r:Hid (Below wr.drew.heap.size wr.drew wr.drew):=hid (Below.refl _ _);obtain ⟨x,C⟩:∃ x,s.getD k 0=x:=⟨_,rfl⟩;rw [C] at T S;have xg:=hid S;have H:=Xf8 J;rw [C] at H;have D:=hid H;have xo:Hid (0≤x∧x<(n:Int)):=hid (HS.out.2 x (by rw [← C];simp [List.getD,J]));have xr:Hid (∀ (A:Option Addr) (n c:Nat),A=some (ad.add k)→n=1→c=cs - k→Row wr.drew wr.drew.heap.size (.slice A n c) [x]):=hid fun A n c O P h3=>by subst O P h3;exact T
   have Y:=hid (Vg8 hn g.out.2.1 xo.out fun y j=>g.out.2.2.1 y j x (by rw [H];simp));have xm:=hid ((Row.of_own g.out.2.2.2.2.1 rfl).up R);have xk:Hid (out.length≤1048576):=hid (by have:=g.out.2.2.2.1;omega);obtain ⟨z,V⟩:∃ z,I (Y1_ out [x])=z:=⟨_,rfl⟩;have HZ:=hid V;have xf:=hid (Z0_ L.out (le_refl _) (G.drew.mono (le_refl _)));have xi:Hid (∀ (v:Value) (W:World),Below wr.drew.heap.size wr.drew W→Row W W.heap.size v (Y1_ out [x])→Calls Tryz.prog 61 #[.agg #[m,c1,c2,c3,c4,c5],v] W (Says W z)):=hid fun v W O P=>by rw [← V];exact xh.out _ v W (Z0_ xf.out (le_refl _) O) Y.out.2 P
   have x6:k+1≤s.length:=q39_;have xz:(k:Int)≤(k:Int)+1:=q39_;clear x7 T H G C V S R;go_wp2
   go_region_held3 (fun W=>W.cell? ⟨w.heap.size,0,none⟩=some m∧W.cell? ⟨w.heap.size,1,none⟩=some c1∧W.cell? ⟨w.heap.size,2,none⟩=some c2∧W.cell? ⟨w.heap.size,3,none⟩=some c3∧W.cell? ⟨w.heap.size,4,none⟩=some c4∧W.cell? ⟨w.heap.size,5,none⟩=some c5)
    (exact K5.out _ r.out)
    (first
    | (go_at_call 43;refine (F0_ _ _ out [x] _ xm.out (xr.out _ _ _ (by simp;intro h;omega) (by first | rfl | (simp;try omega)) (by first | rfl | (simp;try omega))) xk.out j39_).mono ?_;rintro e y5 ⟨xv,rfl,xb,x2⟩;replace r:=hid (Z0_ r.out (le_refl _) x2);have HU:=hid xb;clear xb x2)
    | (go_at_call_of 61 xv;refine (xi.out _ _ r.out HU.out).mono ?_;rintro e y6 ⟨rfl,x3⟩;replace r:=hid (Z0_ r.out (le_refl _) x3);clear x3))
   all_goals
    go_simp;have M:=hid (Z0_ ((Below.refl wr.heap.size wr).drew) (le_refl _) r.out);have E:=hid (Z0_ g.out.2.2.2.2.2 (le_refl _) M.out);cases z
    ·have N:Hid (baseL I out (s.drop (k+1))=baseL I [] s):=hid (by rw [← g.out.1,D.out,baseL,if_neg (by rw [HZ.out];decide)])
     have F:=hid (World.ownsRow.kept g.out.2.2.2.2.1 (Z6_ M.out none) y44_);go_wp2
     go_roundw
     case rel=>exact ⟨k+1,out,j40_,x6,N.out,g.out.2.1,fun y j q K=>g.out.2.2.1 y j q (by rw [D.out];simp [K]),by have:=g.out.2.2.2.1;omega,F.out,E.out⟩
     case measure=>simp [intOf];omega
    ·have N:Hid (baseL I (out ++ [x]) (s.drop (k+1))=baseL I [] s):=hid (by rw [← g.out.1,D.out,baseL,if_pos HZ.out])
     have F:=hid (World.ownsRow.kept g.out.2.2.2.2.1 (Z6_ M.out none) y44_);have gx:=xg.out _ E.out;have xu:=E.out.size;have y1:=g.out.2.2.2.1;have xs:Hid (∀ y∈out ++ [x],∀ q∈s.drop (k+1),y<q):=hid fun y j q K=>by
      rcases List.mem_append.1 j with j | j
      ·exact g.out.2.2.1 y j q (by rw [D.out];simp [K])
      ·rw [List.mem_singleton.1 j]
       have hp:(x :: s.drop (k+1)).Pairwise (·<·):=by rw [← D.out];exact HS.out.1.1.sublist (List.drop_sublist _ _)
       exact (List.pairwise_cons.1 hp).1 q K
     go_wp2_with (at_builtin;refine Z4_ rfl _ _ rfl d.heap.size _ _ _ out [x] rfl rfl (World.ownsRow.alloc F.out _) (Row.lit1 _ x) q39_ j39_ k39_ ?_)
     intro v8 w8 x9 x5;have xa:w8.ownsRow d.heap.size 3 1 v8 (out ++ [x]).length (ints (out ++ [x])):=by rw [List.length_append,xc];exact x9
     have x4:Below d.heap.size d w8:=(E.out.alloc xu _).grown x5 k39_ (fun i hi=>(World.ownsRow.lt F.out i hi).1);have xj:=hid xa;have xe:=hid x4;clear x9 xa x5 x4;go_wp2
     go_roundw
     case rel=>exact ⟨k+1,out ++ [x],j40_,x6,N.out,Y.out.1,xs.out,by rw [List.length_append];simp;omega,xj.out,xe.out⟩
     case measure=>simp [intOf];omega
  ·have xt:k=s.length:=by omega
   subst xt;have xp:Hid (out=baseL I [] s):=hid (by rw [← g.out.1,List.drop_length,baseL]);have xq:=hid (Z0_ L.out (le_refl _) g.out.2.2.2.2.2);go_wp2;go_ret;exact ⟨_,rfl,by rw [← xp.out];exact Row.of_own g.out.2.2.2.2.1 rfl,xq.out⟩
open Go Go.RowKit
theorem Row.behindV {w:World} {B:Nat} {d:Addr} {n c:Nat} {x:Int} {l:List Int} (h:Row w B (.slice (some d) n c) (x :: l)):Row w B (.slice (some (d.add 1)) l.length (c - 1)) l∧n=l.length+1∧1≤c:=by
 obtain ⟨A,o,e,⟨g,p,_⟩,k⟩:=h;injection e with e1 e2 e3;subst e1 e2 e3;simp only [List.length_cons] at g;refine ⟨⟨some (d.add 1),c - 1,rfl,⟨q39_,q39_,fun e=>by cases e⟩,fun i q=>?_⟩,rfl,q39_⟩;obtain ⟨m,f,hb,j⟩:=k (i+1) (by simp only [List.length_cons];omega);injection f with f;subst f;refine ⟨d.add 1,rfl,by rw [Z2_];exact hb,?_⟩;rw [Go.Deep.add_add,Nat.add_comm 1 i,j];rfl
theorem O9_ (a b:List Int):(Z5_ a b).length≤a.length:=j28_
theorem Vy1 {l:List Int} {p:Int→Bool} {k:Nat} (c:k<l.length) (h:(l.take k).any p=false):(l.take (k+1)).any p=p (l.getD k 0):=by
 rw [List.take_succ_eq_append_getElem c,List.any_append,h,show l[k]=l.getD k 0 by simp [List.getD,c]];simp
theorem Zg2 (l:List (List Int)) (hl:∀ i,IsSet (l.getD i [])) (S:∀ i,(l.getD i []).length≤64) (hL:l.length≤64):∀ (s d:List Int) (j m o:Value) (w:World),(∀ x∈s,0≤x∧x<(l.length:Int))→IsSet d→d.length+s.length≤1000→Rows2 w w.heap.size j l→Row w w.heap.size m s→Row w w.heap.size o d →
  Calls Tryz.prog 104 #[j,m,o] w (Says w (G4_ l s d))
 | [],d,j,m,o,w,_,_,_,hv,hs,hu=>by
  obtain ⟨As,cs,rfl,_⟩:=hs
  go_enter Tryz.func104,Tryz.ntmps104
  exact z5_
 | x :: s,d,j,m,o,w,hin,hus,hsz,hv,hs,hu=>by
  have ih:Hid (∀ (d:List Int) (j m o:Value) (w:World),IsSet d→d.length+s.length≤1000→Rows2 w w.heap.size j l→Row w w.heap.size m s→Row w w.heap.size o d →
   Calls Tryz.prog 104 #[j,m,o] w (Says w (G4_ l s d))):=hid fun d j m o w g p h3 h4 h5=>Zg2 l hl S hL s d j m o w (fun y hy=>hin y q44_) g p h3 h4 h5
  have HV:=hid hv;have HS:=hid hs;have HU:=hid hu;have xv:=hid hus;obtain ⟨X,Q⟩:∃ X:Nat,x=(X:Int):=⟨x.toNat,by have:=hin x j39_;omega⟩;have xn:X<l.length:=by have:=hin x j39_;omega
  have y0:(X:Int)<(l.length:Int):=q39_;have xu:=hid (hl X);have xg:=hid (S X);obtain ⟨Al,cl,rfl,_⟩:=id hv;obtain ⟨As,cs,rfl,_⟩:=id hs;obtain ⟨Au,cu,rfl,_⟩:=id hu;obtain ⟨E,hA,x5⟩:=Row.nthV hs (k:=0) j39_;subst hA;have P:=x5 w (Below.refl _ _);rw [show (x :: s).getD 0 0=(X:Int) from Q,add_zero] at P;obtain ⟨xw,ul,xm,gl,x9⟩:=Rows2.read hv X xn;subst xm;have xh:=hid x9;obtain ⟨C,_,y1⟩:=Row.behindV hs;have xc:=hid C;have y2:(1:Int)≤(cs:Int):=q39_;have y3:(s.length:Int)+1≤(cs:Int):=by obtain ⟨_,_,e,⟨g,_⟩,_⟩:=id hs;injection e with e1 I e3;subst e3;simp only [List.length_cons] at g;omega
  have xa:d.length≤1048576:=q39_;have xq:(Z5_ (l.getD X []) d).length≤64:=Nat.le_trans (O9_ _ _) (S X);have xr:((Z5_ (l.getD X []) d).length:Int)≤64:=q39_;have K:Hid (G4_ l (x :: s) d=(Z5_ (l.getD X []) d).any fun r=>G4_ l s (Y1_ d [r])):=hid (by rw [G4_,Q,Int.toNat_natCast]);have xf:=hid (J7_ (l.getD X []) d);clear hv hs hu hin hus C x9 x5 Q
  go_enter Tryz.func104,Tryz.ntmps104
  go_wp2_with fail
  refine (C2_ _ _ (l.getD X []) d _ xh.out HU.out (by have:=xg.out;omega) xa).mono ?_;rintro e w1 ⟨v1,rfl,x7,x3⟩;have N:=hid x7;have Z:=hid x3;obtain ⟨M,hM⟩:∃ M,Z5_ (l.getD X []) d=M:=⟨_,rfl⟩;rw [hM] at N xq xr K xf;obtain ⟨Am,H,rfl,_⟩:=id N.out;have xd:=hid P;have xo:E.block<w.heap.size:=by obtain ⟨_,_,e,_,hk⟩:=HS.out;injection e with e1;subst e1;obtain ⟨a,I,hb,_⟩:=hk 0 j39_;injection I with I;rw [I];exact hb
  clear x7 x3 hM P gl;go_wp2
  go_loopw [6,8] (fun _ Y wr=>∃ k:Nat,Y=.int .i64 (k:Int)∧k≤M.length∧Hid ((M.take k).any (fun r=>G4_ l s (Y1_ d [r]))=false∧Below w1.heap.size w1 wr)) (fun _ Y _=>M.length - (intOf Y).toNat)
  case atStart=>exact ⟨0,rfl,Nat.zero_le _,j39_,Below.refl _ _⟩
  case round =>
   obtain ⟨k,rfl,hk,B⟩:=hrel;by_cases x6:k<M.length
   ·have y7:(k:Int)<(M.length:Int):=by omega
    have y9:IntKind.i64.wrap ((k:Int)+1)=(k:Int)+1:=q40_;obtain ⟨ad,hA,_,y4,T⟩:=Row.oneV (N.out.up B.out.2) x6;subst hA;have y5:(k:Int)+1≤(H:Int):=q39_;have y6:(k:Int)≤(k:Int)+1:=q39_;have v:=hid (Z0_ Z.out (le_refl _) B.out.2);obtain ⟨r,U⟩:∃ r,M.getD k 0=r:=⟨_,rfl⟩;rw [U] at T;have x1:Hid (∀ (A:Option Addr) (n c:Nat),A=some (ad.add k)→n=1→c=H - k→Row wr wr.heap.size (.slice A n c) [r]):=hid fun A n c g p h3=>by subst g p h3;exact T
    have D:=hid (Vy1 x6 B.out.1);rw [U] at D;have xe:Hid ((Y1_ d [r]).length+s.length≤1000):=hid (by have:=Zx0 d [r];simp only [List.length_cons,List.length_nil] at this hsz;omega);clear T U;obtain ⟨z,V⟩:∃ z,G4_ l s (Y1_ d [r])=z:=⟨_,rfl⟩;have F:=(Below.refl wr.heap.size wr).drew;have xk:=hid ((HU.out.up v.out).up F);have O:=hid ((HV.out.up v.out).up F);have C:=(xc.out.up v.out).up F;have x2:Hid (cs=1→s=[]):=hid fun h=>List.eq_nil_of_length_eq_zero q39_;have xi:Hid (∀ (A:Option Addr) (n c:Nat),(A=some (E.add 1)∨(s=[]∧A=some E))→n=s.length→c=cs - 1→∀ W,Below wr.drew.heap.size wr.drew W→Row W W.heap.size (.slice A n c) s):=hid fun A n c g p h3 W J=>by
     subst p h3;rcases g with rfl | ⟨g,rfl⟩
     ·exact C.up J
     ·have hc:=C.up J
      obtain ⟨_,_,e,⟨q1,q2,_⟩,_⟩:=hc;injection e with _ _ e3;subst e3;subst g;exact ⟨_,_,rfl,⟨q1,q2,fun e=>by cases e⟩,fun i hi=>absurd hi j39_⟩
    have xx:(1:Int)≤(s.length:Int)+1:=q39_;have xy:(0:Int)≤1:=q39_;have xz:((s.length:Int)+1 - 1).toNat=s.length:=q39_;have xl:Hid (∀ (A:Option Addr) (n c:Nat),A=some (ad.add k)→n=1→c=H - k→Row wr.drew wr.drew.heap.size (.slice A n c) [r]):=hid fun A n c g p h3=>(x1.out A n c g p h3).up F;have u:Hid (Below wr.drew.heap.size wr.drew wr.drew):=hid (Below.refl _ _);have K5:Hid (∀ W,Below wr.drew.heap.size wr.drew W→W.cell? E=some (.int .i64 (X:Int))):=hid fun W J=>((Z0_ v.out.drew (le_refl _) J).cell xo).trans xd.out;have HM:Hid (∀ (j m o:Value) (W:World),Rows2 W W.heap.size j l→Row W W.heap.size m s→Row W W.heap.size o (Y1_ d [r])→Calls Tryz.prog 104 #[j,m,o] W (Says W z)):=hid fun j m o W g p h3=>by rw [← V];exact ih.out _ j m o W (B0_ _ _) xe.out g p h3
    rw [V] at D;clear V F x1 ih C;have y8:¬ H=k:=q39_;by_cases G:cs=1
    all_goals
     go_wp2
     go_region_held3 (fun W=>W.cell? E=some (.int .i64 (X:Int)))
      (exact K5.out _ u.out)
      (first
      | (go_at_call 43;refine (F0_ _ _ d [r] _ xk.out (xl.out _ _ _ (by first | rfl | (simp [Addr.add];done) | (simp [Addr.add];omega) | (simp;intro h;omega)) (by first | rfl | omega | (simp;try omega)) (by first | rfl | omega | (simp;try omega))) xa j39_).mono ?_;rintro e ya ⟨xt,rfl,x8,R⟩;replace u:=hid (Z0_ u.out (le_refl _) R);replace O:=hid (O.out.up R);have xj:=hid x8;clear x8 R)
      | (go_at_call_of 104 xt;refine (HM.out _ _ _ _ O.out (xi.out _ _ _ (by first | exact .inl rfl | exact .inr ⟨x2.out G,rfl⟩ | exact .inl (by simp [G]) | exact .inr ⟨x2.out G,by simp [G]⟩) (by first | rfl | omega | (simp;done) | (simp;omega)) (by first | rfl | omega | (simp;done) | (simp;omega)) _ u.out) xj.out).mono ?_;rintro e yb ⟨rfl,x4⟩;replace u:=hid (Z0_ u.out (le_refl _) x4);clear x4))
     go_simp;have xb:=hid (Z0_ v.out.drew (le_refl _) u.out);have x0:=hid (Z0_ B.out.2.drew (le_refl _) u.out);cases z
     ·go_wp2
      go_roundw
      case rel=>first | exact ⟨k+1,j40_,q39_,D.out,x0.out⟩ | exact ⟨_,.int .i64 ((k:Int)+1),_,_,_,_,_,_,_,_,_,_,_,_,_,_,_,_,_,⟨k+1,j40_,q39_,D.out,x0.out⟩,by rw [G]⟩
      case measure=>simp [intOf];omega
     ·have L:Hid (G4_ l (x :: s) d=true):=hid (by
       rw [K.out];have g:=D.out;rw [List.any_eq_true] at g ⊢;obtain ⟨q,hq,xs⟩:=g;exact ⟨q,List.mem_of_mem_take hq,xs⟩)
      go_wp2;go_ret;exact ⟨by rw [L.out];rfl,xb.out⟩
   ·have xp:k=M.length:=by omega
    subst xp;have L:Hid (G4_ l (x :: s) d=false):=hid (by rw [K.out,← B.out.1,List.take_length]);have v:=hid (Z0_ Z.out (le_refl _) B.out.2);go_wp2;go_ret;exact ⟨by rw [L.out];rfl,v.out⟩
end Wp
end Go.Proofs.YteiejkhdonmcdaaGreatDoor
