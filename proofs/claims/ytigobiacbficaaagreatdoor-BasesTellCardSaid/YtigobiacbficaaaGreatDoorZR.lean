/- The document's R7 over digraphs that may be: May, points, near and steps, walked (without the program's search; gen_vr7.py). The document's R7 over digraphs that may be: least, From and Path, walked (without the program's search; gen_vr7.py). -/
import Derived.Test.YtigobiacbficaaaGreatDoorVReach
import Derived.Test.YtigobiacbficaaaGreatDoorZA
import Derived.Test.YtigobiacbficaaaGreatDoorX0A
import Derived.Test.YtigobiacbficaaaGreatDoorX0B
set_option maxHeartbeats 8000000
set_option maxRecDepth 1000000
open Go.Lib (hid)
open Nat (le_refl)
namespace Go.Proofs.YtigobiacbficaaaGreatDoor.Wp
open Go Go.RowKit
theorem Zu3 (v:Value) (l:List Int) (b:Bool) (h:mayB l=b) (w:World) (hr:Row w w.heap.size v l):Calls Tryz.prog 14 #[v] w (Says w b):=j25_
def ptB (right:Int) (l:List Int):Bool:=mayB l && (decide (l.length=0) || decide (l.getD (l.length - 1) 0<right))
theorem Jq0 {right:Int} {l:List Int} (h:mayB l=false):ptB right l=false:=by simp [ptB,h]
theorem Vu0 {right:Int} {l:List Int} (h:mayB l=true) (c:l.length=0):ptB right l=true:=by simp [ptB,h,c]
theorem Vd9 {right x:Int} {l:List Int} (h:mayB l=true) (c:0<l.length) (hx:l.getD (l.length - 1) 0=x):ptB right l=decide (x<right):=by
 unfold ptB;exact q24_
def digB (adj:List (List Int)):Bool:=decide (adj.length≤4096) && adj.all (ptB adj.length)
theorem digB_off {adj:List (List Int)} (h:4096<(adj.length:Int)):digB adj=false:=x28_
theorem digB_miss {adj:List (List Int)} {i:Nat} (hi:i<adj.length) (h:ptB adj.length (adj.getD i [])=false):digB adj=false:=by
 unfold digB;exact z4_
theorem digB_all {adj:List (List Int)} (h3:¬ 4096<(adj.length:Int)) (h:∀ i,i<adj.length→ptB adj.length (adj.getD i [])=true):digB adj=true:=x36_
theorem Vu1 {n:Nat} {l:List Int} (h:ptB n l=true):PtsP n l:=by
 unfold ptB at h;rw [Bool.and_eq_true,mayB_iff] at h;obtain ⟨⟨h1,h2⟩,h3⟩:=h;refine ⟨⟨h1,h2⟩,fun x hx=>⟨(h2 x hx).1,?_⟩⟩;exact q5_
theorem Zu4 {n:Nat} {l:List Int} (h:PtsP n l):ptB n l=true:=by
 unfold ptB;rw [Bool.and_eq_true,mayB_iff];refine ⟨h.1,?_⟩;rcases Nat.eq_zero_or_pos l.length with c | c
 ·rw [decide_eq_true c];rfl
 ·rw [Bool.or_eq_true]
  right;refine decide_eq_true ?_;rw [show l.getD (l.length - 1) 0=l[l.length - 1]'y40_ by simp [List.getD,show l.length - 1<l.length by omega]];exact (h.2 _ (List.getElem_mem _)).2
theorem digB_dig {adj:List (List Int)} (h:digB adj=true):DigP adj:=by
 unfold digB at h;rw [Bool.and_eq_true,decide_eq_true_iff,List.all_eq_true] at h;refine ⟨h.1,fun x=>?_⟩;rcases Nat.lt_or_ge x adj.length with c | c
 ·rw [show adj.getD x []=adj[x] by simp [List.getD,c]]
  exact Vu1 (h.2 _ (List.getElem_mem c))
 ·rw [List.getD_eq_getElem?_getD,List.getElem?_eq_none c]
  exact ⟨⟨List.Pairwise.nil,fun y d=>by simp at d⟩,fun y d=>by simp at d⟩
theorem Yu5 {adj:List (List Int)} (h:DigP adj):digB adj=true:=digB_all (by have:=h.1;omega) fun i _=>Zu4 (h.2 i)
theorem Yc2 (n:Nat) (v:Value) (l:List Int) (w:World) (r:Row w w.heap.size v l) :
  Calls Tryz.prog 56 #[v,.int .i64 n] w (Says w (ptB n l)):=by
 have g:=hid r;obtain ⟨A,c,rfl,hcap,q⟩:=r;have u:=hid q;have B:(l.length:Int)≤9223372036854775807:=x6_;clear q hcap;rcases hm:mayB l with _ | _
 ·have d:=hid hm
  clear hm;rw [Jq0 d.out]
  go_enter Tryz.func56,Tryz.ntmps56
  go_wp2_with fail
  refine (Zu3 _ l false d.out _ g.out).mono ?_;exact x38_
 ·have d:=hid hm
  clear hm;by_cases j:l.length=0
  ·rw [Vu0 d.out j]
   have z:l=[]:=List.eq_nil_of_length_eq_zero j;subst z
   go_enter Tryz.func56,Tryz.ntmps56
   go_wp2_with fail
   refine (Zu3 _ [] true d.out _ g.out).mono ?_;exact x38_
  ·obtain ⟨x,m⟩:∃ x,l.getD (l.length - 1) 0=x:=⟨_,rfl⟩
   obtain ⟨al,y,halb,h⟩:=u.out (l.length - 1) y40_;have o:=hid (Vd9 (right:=(n:Int)) d.out y40_ m);rw [m] at h;subst y;obtain ⟨L,k⟩:∃ L,l.length=L:=⟨_,rfl⟩;rw [k] at h B j g;have hL0:¬ ((L:Int)=0):=y40_;have C:(0:Int)<(L:Int):=y40_;have D:(1:Int)≤(L:Int):=y40_;have E:IntKind.i64.wrap ((L:Int) - 1)=(L:Int) - 1:=y41_;have F:(0:Int)≤(L:Int) - 1:=y40_;have G:(L:Int) - 1<(L:Int):=y40_;have H:((L:Int) - 1).toNat=L - 1:=y40_;have Hcx:=hid h;rw [k];clear m h k;by_cases s:x<(n:Int)
   ·rw [o.out,decide_eq_true s]
    go_enter Tryz.func56,Tryz.ntmps56
    go_wp2_with fail
    refine (Zu3 _ l true d.out _ g.out).mono ?_;exact z38_
   ·rw [o.out,decide_eq_false s]
    go_enter Tryz.func56,Tryz.ntmps56
    go_wp2_with fail
    refine (Zu3 _ l true d.out _ g.out).mono ?_;exact y6_
theorem H3_ (n:Nat) (v:Value) (l:List Int) (b:Bool) (h:ptB n l=b) (w:World) (c:Row w w.heap.size v l) :
  Calls Tryz.prog 56 #[v,.int .i64 n] w (Says w b):=by
 subst h;exact Yc2 n v l w c
theorem Xr4 (v:Value) (adj:List (List Int)) (w:World) (E:Rows2 w w.heap.size v adj) :
  Calls Tryz.prog 55 #[v] w (Says w (digB adj)):=by
 obtain ⟨A,c,rfl,hcap,m⟩:=E;have I:(adj.length:Int)≤9223372036854775807:=x6_;have y:=hid m;clear m
 go_enter Tryz.func55,Tryz.ntmps55
 go_wp2
 go_loopw [3] (fun d wr=>∃ i:Nat,d=.int .i64 i∧i≤adj.length∧Below w.heap.size w wr∧∀ j,j<i→ptB adj.length (adj.getD j [])=true) (fun d _=>adj.length - (intOf d).toNat)
 case atStart=>exact ⟨0,rfl,Nat.zero_le _,Below.refl _ _,fun j q=>absurd q (Nat.not_lt_zero _)⟩
 case round =>
  obtain ⟨i,rfl,H,k,s⟩:=hrel;have Hbr:=hid k;have Hok:=hid s;clear k s;by_cases r:i<adj.length
  ·have J:(i:Int)<(adj.length:Int):=by omega
   obtain ⟨B,u,C,hab,o,x⟩:=y.out i r;subst C;have G:=(Hbr.out.cell (p:=B.add i) x42_).trans o;have g:=hid ((x.below Hbr.out).mono Hbr.out.size);have z:=hid (fun h=>digB_miss r h);have Hnext:Hid (ptB adj.length (adj.getD i [])=true→∀ j,j<i+1→ptB adj.length (adj.getD j [])=true):=hid fun h j q=>x11_;clear o hab Hok x;generalize adj.getD i []=l at *
   rcases hm:ptB adj.length l with _ | _
   ·have Hm:=hid hm
    rw [z.out hm];clear hm
    go_wp2_with fail
    refine (H3_ adj.length _ l false Hm.out _ g.out).mono ?_;exact q38_
   ·have Hm:=hid hm
    clear hm
    go_wp2_with fail
    refine (H3_ adj.length _ l true Hm.out _ g.out).mono ?_;exact k11_
  ·have D:i=adj.length:=by omega
   subst D;by_cases F:(adj.length:Int)≤4096
   ·have Hyes:=hid (digB_all (adj:=adj) y40_ Hok.out)
    exact z7_
   ·have Hno:=hid (digB_off (adj:=adj) y40_)
    exact y9_
theorem Yu6 (v:Value) (adj:List (List Int)) (b:Bool) (h:digB adj=b) (w:World) (c:Rows2 w w.heap.size v adj) :
  Calls Tryz.prog 55 #[v] w (Says w b):=by
 subst h;exact Xr4 v adj w c
theorem Vu2 {l:List Int} {x:Int} (h:mayB l=false):hasB l x=false:=by unfold hasB;rw [h];rfl
theorem Ve0 {l:List Int} {x:Int} (h:mayB l=true):hasB l x=l.contains x:=by unfold hasB;rw [h];rfl
theorem Yu7 (v:Value) (l:List Int) (x:Int) (w:World) (m:Row w w.heap.size v l) (hl:l.length≤1048576) :
  Calls Tryz.prog 58 #[v,.int .i64 x] w (Says w (hasB l x)):=by
 have g:=hid m;clear m;rcases hm:mayB l with _ | _
 ·have c:=hid (Vu2 (x:=x) hm)
  go_enter Tryz.func58,Tryz.ntmps58
  go_wp2_with fail
  refine (Zy1 v l w g.out y40_).mono ?_;rintro e o ⟨rfl,d⟩;rw [hm];go_wp2;go_ret;exact X7_ c.out rfl d
 ·have c:=hid (Ve0 (x:=x) hm)
  obtain ⟨j,k⟩:∃ j,j=l.contains x:=⟨_,rfl⟩;have h:=hid (Xe5 v l x w.heap.size);rw [← k] at c h;clear k
  go_enter Tryz.func58,Tryz.ntmps58
  go_wp2_with fail
  refine (Zy1 v l w g.out y40_).mono ?_;rintro e o ⟨rfl,d⟩;rw [hm]
  go_wp2_with fail
  refine (h.out o (g.out.below d) y40_).mono ?_;rintro e p ⟨rfl,rfl⟩;go_wp2;go_ret;exact X7_ c.out rfl d
theorem Rows2.read {w:World} {B:Nat} {A:Option Addr} {n c:Nat} {adj:List (List Int)} (h:Rows2 w B (.slice A n c) adj) (x:Nat) (o:x<adj.length):∃ (d:Addr) (e:Value),A=some d∧w.cell? (d.add x)=some e∧Row w B e (adj.getD x []):=by
 obtain ⟨p,c3,f,_,k⟩:=h;injection f with e7 e8 e9;subst e7;obtain ⟨d,e,g,_,j,m⟩:=k x o;exact ⟨d,e,g,j,m⟩
theorem Row.readl {w:World} {B:Nat} {A:Option Addr} {n c:Nat} {l:List Int} (h:Row w B (.slice A n c) l) (k:Nat) (g:k<l.length):∃ d:Addr,A=some d∧w.cell? (d.add k)=some (.int .i64 (l.getD k 0)):=by
 obtain ⟨j,c',e,_,hc⟩:=h;injection e with e1 e2 e3;subst e1;obtain ⟨d,f,_,h2⟩:=hc k g;exact ⟨d,f,h2⟩
theorem Vi8 {n:Nat} {l:List Int} (h:PtsP n l) {k:Nat} (c:k<l.length):∃ x:Nat,l.getD k 0=(x:Int)∧x<n:=by
 have d:l.getD k 0∈l:=by
  rw [show l.getD k 0=l[k] by simp [List.getD,c]];exact List.getElem_mem c
 have:=h.2 _ d;exact ⟨(l.getD k 0).toNat,y40_,y40_⟩
section
variable {adj:List (List Int)} (hd:DigP adj)
include hd
theorem Ve1 (x:Nat):(adj.getD x []).length≤4096:=by
 have:=I4_ (n:=adj.length) (hd.2 x);have:=hd.1;omega
theorem Zn3 (v u:Value) (l:List Int) (hl:PtsP adj.length l) (w:World) (q:Rows2 w w.heap.size v adj) (p:Row w w.heap.size u l) :
  Calls Tryz.prog 59 #[v,u] w (Gives w (nearL adj l)):=by
 have D:=hid q;have j:=hid p;have h:=hid hd;have m:=hid hl;have L:=hid hd.1;have Q:=I4_ hl;have R:=hd.1;obtain ⟨A,c,rfl,_⟩:=q;obtain ⟨K,cl,rfl,_⟩:=p;clear hd hl
 go_enter Tryz.func59,Tryz.ntmps59
 go_wp2
 go_loopw [5,6] (fun J g wr=>∃ k:Nat,g=.int .i64 (k:Int)∧k≤l.length∧Hid (Row wr wr.heap.size J (nearK adj l k)∧Below w.heap.size w wr)) (fun _ g _=>l.length - (intOf g).toNat)
 case atStart=>exact ⟨0,rfl,Nat.zero_le _,j.out,Below.refl _ _⟩
 case round =>
  obtain ⟨k,rfl,hk,HS⟩:=hrel;by_cases hlt:k<l.length
  ·have P:(k:Int)<(l.length:Int):=by omega
   obtain ⟨x,d,I⟩:=Vi8 m.out hlt;have S:(x:Int)<(adj.length:Int):=y40_;obtain ⟨M,G,hc⟩:=(j.out.up HS.out.2).readl k hlt;obtain ⟨N,T,H,O,s⟩:=(D.out.up HS.out.2).read x I;subst G H;rw [d] at hc;have F:=hid d;have E:=hid s;have B:Hid ((nearK adj l k).length≤1048576):=hid (by
    have:=I4_ (Zf7 h.out m.out k hk).1;omega)
   have C:Hid ((adj.getD x []).length≤1048576):=hid (by have:=Ve1 h.out x;omega);clear d s
   go_wp2_with fail
   refine (B2_ _ _ (nearK adj l k) (adj.getD x []) _ HS.out.1 E.out B.out C.out).mono ?_;rintro e V ⟨U,rfl,r,o⟩;have y:=hid r;have z:=hid (Z0_ HS.out.2 (le_refl _) o);clear r o;go_wp2
   go_roundw
   case rel=>exact ⟨k+1,j41_,y40_,by unfold nearK;rw [F.out,Int.toNat_natCast];exact y.out,z.out⟩
   exact mz_
  ·have hke:k=l.length:=by omega
   exact j26_
theorem Yl3 (v vt:Value) (dst:List Int) (q:PtsP adj.length dst) (x:Nat) (hx:x<adj.length) (w:World) (N:Rows2 w w.heap.size v adj) (K:Row w w.heap.size vt dst) :
  Calls Tryz.prog 84 #[v,.int .i64 (x:Int),vt] w fun e w'=>∃ s:Int,e=.returned (.int .i64 s)∧I5_ adj dst (x:Int) s∧Below w.heap.size w w':=by
 have HR:=hid N;have V:=hid K;have B:=hid hd;have HT:=hid q;have x4:=hd.1;have r:PtsP adj.length [(x:Int)]:=⟨⟨k40_,fun y j=>by rw [List.mem_singleton] at j;rw [j];exact ⟨y40_,y40_⟩⟩,fun y j=>by rw [List.mem_singleton] at j;rw [j];omega⟩;have G:=hid r;have U:Hid (dst.length≤1048576):=hid (by have:=I4_ q;omega);have Y:Hid (∀ k,(0<(meetL (itL adj [(x:Int)] k) dst).length)↔Near adj dst k (x:Int)):=hid (fun k=>by
  have P:IsSet (itL adj [(x:Int)] k):=(Q2_ hd r k).1;have o:=K2_ hd (dst:=dst) k [(x:Int)] r;constructor
  ·intro h
   obtain ⟨z,hz⟩:=List.exists_mem_of_length_pos h;obtain ⟨C,D⟩:=(T6_ P q.1 z).1 hz;obtain ⟨y,j,p⟩:=o.1 ⟨z,C,D⟩;rw [List.mem_singleton] at j;rw [← j];exact p
  ·intro h
   obtain ⟨z,C,D⟩:=o.2 ⟨_,k40_,h⟩;exact List.length_pos_of_mem ((T6_ P q.1 z).2 ⟨C,D⟩))
 have R:Hid (∀ k,Near adj dst k (x:Int)→∃ m,m≤adj.length∧Near adj dst m (x:Int)):=hid (fun k M=>by
  obtain ⟨m,o,_,h2⟩:=Zf8 hd (v:=(x:Int)) y40_ M;exact ⟨m,o,h2⟩)
 have W:Hid (Row (w.alloc (.cells #[.int .i64 (x:Int)] 3)) (w.alloc (.cells #[.int .i64 (x:Int)] 3)).heap.size (.slice (some ⟨w.heap.size,0,none⟩) 1 1) [(x:Int)]):=hid (Row.lit1 w (x:Int)).here;have S:Hid (Below w.heap.size w (w.alloc (.cells #[.int .i64 (x:Int)] 3))):=hid ((Below.refl _ w).alloc (le_refl _) _);obtain ⟨A,c,rfl,_⟩:=N;obtain ⟨At,ct,rfl,_⟩:=K;clear hd q r
 go_enter Tryz.func84,Tryz.ntmps84
 go_wp2
 go_loopw [7,8] (fun vo F wr=>∃ k:Nat,F=.int .i64 (k:Int)∧k≤adj.length+1∧Hid (Row wr wr.heap.size vo (itL adj [(x:Int)] k)∧Below w.heap.size w wr∧∀ m,m<k→¬ Near adj dst m (x:Int))) (fun _ F _=>adj.length+1 - (intOf F).toNat)
 case atStart=>exact ⟨0,rfl,Nat.zero_le _,W.out,S.out,fun m d=>by omega⟩
 case round =>
  obtain ⟨k,rfl,M,g⟩:=hrel;by_cases x3:k≤adj.length
  ·have x1:(k:Int)≤(adj.length:Int):=by omega
   have X:Hid ((itL adj [(x:Int)] k).length≤1048576):=hid (by
    have:=I4_ (Q2_ B.out G.out k);omega)
   go_wp2_with fail
   refine (Ye9 _ _ (itL adj [(x:Int)] k) dst _ g.out.1 (V.out.up g.out.2.1) X.out U.out).mono ?_;rintro e w5 ⟨v5,rfl,x2,E⟩;obtain ⟨A5,c5,rfl,-⟩:=x2;have Z:=hid (g.out.1.up E);have u:=hid (Z0_ g.out.2.1 (le_refl _) E);have d:=Y.out k;obtain ⟨L,I⟩:∃ L,(meetL (itL adj [(x:Int)] k) dst).length=L:=⟨_,rfl⟩;rw [I] at d ⊢;clear E I;by_cases H:0<L
   ·have p:=hid (d.1 H)
    have x0:(0:Int)<(L:Int):=y40_;clear d;go_wp2;go_ret;exact ⟨_,rfl,.inl ⟨k,rfl,p.out,g.out.2.2⟩,u.out⟩
   ·have p:=hid (fun h=>H (d.2 h))
    have x0:¬ (0:Int)<(L:Int):=y40_;clear d
    go_wp2_with fail
    refine (Zn3 B.out _ _ (itL adj [(x:Int)] k) (Q2_ B.out G.out k) _ (HR.out.up u.out) Z.out).mono ?_;rintro e w6 ⟨v6,rfl,O,J⟩;have Q:=hid O;have T:=hid (Z0_ u.out (le_refl _) J);clear O J;go_wp2
    go_roundw
    case rel =>
     refine ⟨k+1,j41_,y40_,Q.out,T.out,fun m d=>?_⟩;by_cases e:m=k
     ·rw [e];exact p.out
     ·exact g.out.2.2 m y40_
    case measure=>simp [intOf];omega
  ·have x1:¬ (k:Int)≤(adj.length:Int):=by omega
   go_wp2;go_ret;exact ⟨_,rfl,.inr ⟨rfl,fun m d=>by
    obtain ⟨m',o,h2⟩:=R.out m d;exact g.out.2.2 m' y40_ h2⟩,g.out.2.1⟩
end
open Go Go.RowKit
theorem Ve2 {adj:List (List Int)} {dst S:List Int} {i:Nat} {b:Int} (c:PtsP adj.length S) (h:J7_ adj dst S i b):b=-1∨(0≤b∧b<(adj.length:Int)):=by
 rcases h with ⟨e,_⟩ | ⟨_,h,_⟩
 ·exact .inl e
 ·exact .inr (c.2 b (List.mem_of_mem_take h))
section
variable {adj:List (List Int)} (hd:DigP adj)
include hd
theorem Zh9 (v Q vt:Value) (S dst:List Int) (B:PtsP adj.length S) (F:PtsP adj.length dst) (w:World) (E:Rows2 w w.heap.size v adj) (hl:Row w w.heap.size Q S) (C:Row w w.heap.size vt dst) :
  Calls Tryz.prog 57 #[v,Q,vt] w fun e w'=>∃ b:Int,e=.returned (.int .i64 b)∧J7_ adj dst S S.length b∧Below w.heap.size w w':=by
 have HR:=hid E;have HF:=hid C;have z:=hid hl;have HD:=hid hd;have HT:=hid F;have p:=hid B;have x8:=hd.1;have x5:=I4_ B;have I:=hid (fun x (o:x<adj.length) W (J:Below w.heap.size w W)=>Yl3 hd v vt dst F x o W (E.up J) (C.up J));obtain ⟨A,c,rfl,_⟩:=E;obtain ⟨At,ct,rfl,_⟩:=C;obtain ⟨Al,cl,rfl,_⟩:=hl;clear hd F B
 go_enter Tryz.func57,Tryz.ntmps57
 go_wp2
 go_loopw [7,8] (fun vb G wr=>∃ (i:Nat) (b:Int),vb=.int .i64 b∧G=.int .i64 (i:Int)∧i≤S.length∧Hid (J7_ adj dst S i b∧Below w.heap.size w wr)) (fun _ G _=>S.length - (intOf G).toNat)
 case atStart=>exact ⟨0,-1,rfl,rfl,Nat.zero_le _,Zm3,Below.refl _ _⟩
 case round =>
  obtain ⟨i,b,rfl,rfl,Z,d⟩:=hrel;by_cases g:i<S.length
  ·have x7:(i:Int)<(S.length:Int):=by omega
   obtain ⟨x,o,x3⟩:=Vi8 p.out g;obtain ⟨ad,V,hc⟩:=(z.out.up d.out.2).readl i g;subst V;rw [o] at hc;have m:=hid o;clear o
   go_wp2_with fail
   refine (I.out x x3 _ d.out.2).mono ?_;rintro e w5 ⟨s,rfl,hs,L⟩;have k:=hid (Z0_ d.out.2 (le_refl _) L);have x4:=hid hs;have r:Hid (I5_ adj dst (S.getD i 0) s):=hid (by rw [m.out];exact hs);obtain ⟨R,j,O⟩:=(z.out.up k.out).readl i g;injection j with j;subst j;rw [m.out] at O;clear hs L hc;by_cases x1:s<0
   ·have T:decide (0≤s)=false:=decide_eq_false y40_
    have h:=hid (Zf9 g d.out.1 r.out x1);go_wp2
    go_roundw
    case rel=>exact ⟨i+1,b,rfl,j41_,y40_,h.out,k.out⟩
    exact mz_
   ·have T:decide (0≤s)=true:=decide_eq_true y40_
    have D:0≤s:=y40_;rcases Ve2 p.out d.out.1 with hb | ⟨K,x6⟩
    ·have h:=hid (Zg0 g d.out.1 hb (fun y hy=>(p.out.2 y (List.mem_of_mem_take hy)).1) r.out D)
     have X:b<0:=y40_;have U:decide (b<0)=true:=decide_eq_true X;clear hb;go_wp2
     go_roundw
     case rel=>exact ⟨i+1,(x:Int),rfl,j41_,y40_,by rw [← m.out];exact h.out,k.out⟩
     exact mz_
    ·obtain ⟨q,rfl⟩:∃ q:Nat,b=(q:Int):=⟨b.toNat,y40_⟩
     have x2:q<adj.length:=y40_;have U:decide ((q:Int)<0)=false:=decide_eq_false y40_;have d3:¬ (q:Int)<0:=y40_
     go_wp2_with fail
     refine (I.out q x2 _ k.out).mono ?_;rintro e w6 ⟨sb,rfl,P,M⟩;have u:=hid (Z0_ k.out (le_refl _) M);have H:=hid P;obtain ⟨R,j,Y⟩:=(z.out.up u.out).readl i g;injection j with j;subst j;rw [m.out] at Y;clear P M O;by_cases N:s<sb
     ·have h:=hid (Zq0 g d.out.1 K H.out r.out D N)
      go_wp2
      go_roundw
      case rel=>exact ⟨i+1,(x:Int),rfl,j41_,y40_,by rw [← m.out];exact h.out,u.out⟩
      exact mz_
     ·have h:=hid (Zm4 p.out.1.1 g d.out.1 K H.out r.out D N)
      go_wp2
      go_roundw
      case rel=>exact ⟨i+1,(q:Int),rfl,j41_,y40_,h.out,u.out⟩
      exact mz_
  ·have x0:i=S.length:=by omega
   clear g Z;subst x0;go_wp2;go_ret;exact ⟨_,rfl,d.out.1,d.out.2⟩
end
theorem Xa1 (v vf:Value) (adj:List (List Int)) (src:List Int) (h:DigP adj) (h2:PtsP adj.length src) (w:World) (G:Rows2 w w.heap.size v adj) (D:Row w w.heap.size vf src) :
  Calls Tryz.prog 38 #[v,vf] w (Gives w (itL adj src adj.length)):=by
 have x:=hid G;have u:=hid D;obtain ⟨A,c,rfl,_⟩:=G;obtain ⟨Q,cl,rfl,_⟩:=D;have S:=h.1;have T:=I4_ h2;have g:=hid h;have p:=hid h2;clear h h2
 go_enter Tryz.func38,Tryz.ntmps38
 go_wp2_with fail
 refine (Yu6 _ adj true (Yu5 g.out) _ x.out).mono ?_;rintro e V ⟨rfl,y⟩;have q:=hid y;clear y
 go_wp2_with fail
 refine (H3_ adj.length _ src true (Zu4 p.out) _ (u.out.up q.out)).mono ?_;rintro e d ⟨rfl,z⟩;have r:=hid (Z0_ q.out (le_refl _) z);have j:(d.alloc (.cells #[] 3)).ownsRow d.heap.size 3 1 (.slice (some ⟨d.heap.size,0,none⟩) 0 0) 0 [] :=
  World.ownsRow_made d #[] 0 (le_refl _) z41_ rfl
 have s:Hid (Below d.heap.size d (d.alloc (.cells #[] 3))):=hid ((Below.refl _ d).alloc (le_refl _) _);have L:=hid ((u.out.up r.out).up s.out);clear z
 go_wp2_with (at_builtin;refine Z5_ rfl _ _ rfl d.heap.size _ _ _ [] src rfl rfl j L.out k40_ y40_ k40_ ?_)
 intro O o F E;have B:Below d.heap.size d o:=s.out.grown E k40_ (fun i N=>(World.ownsRow.lt j i N).1);have M:Hid (Row o o.heap.size O src):=hid (Row.of_own F k40_);have J:=hid (Z0_ r.out (le_refl _) B);clear F E B j;go_wp2
 go_loopw [5,6] (fun P m wr=>∃ k:Nat,m=.int .i64 (k:Int)∧k≤adj.length∧Hid (Row wr wr.heap.size P (itL adj src k)∧Below w.heap.size w wr)) (fun _ m _=>adj.length - (intOf m).toNat)
 case atStart=>exact ⟨0,rfl,Nat.zero_le _,M.out,J.out⟩
 case round =>
  obtain ⟨k,rfl,hk,HS⟩:=hrel;by_cases hlt:k<adj.length
  ·have R:(k:Int)<(adj.length:Int):=by omega
   go_wp2_with fail
   refine (Zn3 g.out _ _ (itL adj src k) (Q2_ g.out p.out k) _ (x.out.up HS.out.2) HS.out.1).mono ?_;rintro e W ⟨U,rfl,H,C⟩;have I:=hid H;have K:=hid (Z0_ HS.out.2 (le_refl _) C);clear H C;go_wp2
   go_roundw
   case rel=>exact ⟨k+1,j41_,y40_,I.out,K.out⟩
   exact mz_
  ·have hke:k=adj.length:=by omega
   exact j26_
structure Rest (adj:List (List Int)) (dst l out:List Int) (x:Int):Prop where
 ex:∃ S m rest,Greedy adj dst S m (x :: rest)∧l=out ++ rest
theorem Rest.end_ {adj:List (List Int)} {dst l out:List Int} {x:Int} (h:Rest adj dst l out x) (d:x∈dst):out=l:=by
 obtain ⟨S,m,rest,c,e⟩:=h.ex;cases c with
 | stop=>rw [e,List.append_nil]
 | step _ _ n _ h1 _ h3 _ _=>exact absurd (C4_ (Nat.zero_le n) d) (h3 x h1)
theorem Rest.next {adj:List (List Int)} {dst l out:List Int} {x:Int} (h:Rest adj dst l out x) (d:x∉dst) {b:Int} (hb:J7_ adj dst (adj.getD x.toNat []) (adj.getD x.toNat []).length b):Rest adj dst l (out ++ [b]) b∧out.length+1≤l.length∧b∈adj.getD x.toNat []:=by
 obtain ⟨S,m,rest,c,e⟩:=h.ex;cases c with
 | stop _ _ _ h2 _=>exact absurd h2 d
 | step _ _ n rest h1 h2 h3 h4 c =>
  match rest,c with
  | [],c=>exact absurd c.length k40_
  | y :: rest,c =>
   have f:=Zq1 c hb;subst f;exact ⟨⟨_,_,rest,c,by rw [e,List.append_assoc];rfl⟩,by rw [e,List.length_append,List.length_cons];omega,c.mem⟩
def Yu8 (adj:List (List Int)) (src dst l:List Int) (b:Bool):Prop:=(b=true∧∃ n,Greedy adj dst src n l)∨(b=false∧l=[]∧∀ y∈src,∀ k,¬ Near adj dst k y)
theorem Xa2 {adj:List (List Int)} {src dst l:List Int} {b:Bool} (hd:DigP adj) (hs:PtsP adj.length src) (h:Yu8 adj src dst l b):l.length≤adj.length+1:=by
 rcases h with ⟨_,n,c⟩ | ⟨_,rfl,_⟩
 ·rw [c.length]
  have d:=c.length;cases l with
  | nil=>simp at d
  | cons x l =>
   have e:=hs.2 x c.mem;obtain ⟨m,f,h2,h3⟩:=Zf8 hd e (c.near 0 k40_);have:=Nat.lt_or_ge m n;rcases this with h | h
   ·exact absurd h3 (c.none x c.mem m h)
   ·omega
 ·simp
theorem Ve3 {adj:List (List Int)} {dst S:List Int} {b:Int} (h:∀ y∈S,∀ k,¬ Near adj dst k y) (hb:J7_ adj dst S S.length b):b=-1:=by
 rcases hb with ⟨e,_⟩ | ⟨k,c,h2,_⟩
 ·exact e
 ·exact absurd h2 (h b (List.mem_of_mem_take c) k)
theorem Zn4 (adj:List (List Int)) (src dst l:List Int) (b:Bool) (F:DigP adj) (h2:PtsP adj.length src) (h3:PtsP adj.length dst) (O:Yu8 adj src dst l b) (v vf vt:Value) (w:World) (hr:Rows2 w w.heap.size v adj) (hf:Row w w.heap.size vf src) (ht:Row w w.heap.size vt dst) :
  Calls Tryz.prog 37 #[v,vf,vt] w fun e w'=>∃ u:Value,e=.returned (.tuple #[u,.bool b])∧Row w' w'.heap.size u l∧Below w.heap.size w w':=by
 have E:=hid hr;have X:=hid hf;have B:=hid ht;have xh:=hid (Xa2 F h2 O);have y2:=F.1;have y5:=I4_ h2;have y6:=I4_ h3;have y0:=xh.out;have p:=hid F;have I:=hid h2;have r:=hid h3;have K:=hid O;obtain ⟨A,c,rfl,_⟩:=hr;obtain ⟨Al,cl,rfl,_⟩:=hf;obtain ⟨At,ct,rfl,_⟩:=ht;clear F h2 h3 O
 go_enter Tryz.func37,Tryz.ntmps37
 go_wp2_with fail
 refine (Yu6 _ adj true (Yu5 p.out) _ E.out).mono ?_;rintro e w1 ⟨rfl,Z⟩;have S:=hid Z;clear Z
 go_wp2_with fail
 refine (H3_ adj.length _ src true (Zu4 I.out) _ (X.out.up S.out)).mono ?_;rintro e w2 ⟨rfl,x1⟩;have T:=hid (Z0_ S.out (le_refl _) x1);clear x1
 go_wp2_with fail
 refine (H3_ adj.length _ dst true (Zu4 r.out) _ (B.out.up T.out)).mono ?_;rintro e w3 ⟨rfl,x2⟩;have C:=hid (Z0_ T.out (le_refl _) x2);clear x2
 go_wp2_with fail
 refine (Zh9 p.out _ _ _ src dst I.out r.out _ (E.out.up C.out) (X.out.up C.out) (B.out.up C.out)).mono ?_;rintro e d ⟨m,rfl,xe,x3⟩;have U:=hid (Z0_ C.out (le_refl _) x3);have M:=hid xe;clear x3 xe;cases b with
 | false =>
  obtain ⟨hl,xr⟩:l=[]∧∀ y∈src,∀ k,¬ Near adj dst k y:=by
   rcases K.out with ⟨e,_⟩ | ⟨_,e,h⟩
   ·cases e
   ·exact ⟨e,h⟩
  subst hl;have hx:m=-1:=Ve3 xr M.out;have d1:m<0:=y40_;clear hx;go_wp2
  go_ret2
  exact ⟨_,rfl,Row.nil_ _ _,U.out⟩
 | true =>
  obtain ⟨n,o⟩:∃ n,Greedy adj dst src n l:=by
   rcases K.out with ⟨_,h⟩ | ⟨e,_⟩
   ·exact h
   ·cases e
  obtain ⟨y,rest,G⟩:∃ y rest,l=y :: rest:=by
   cases l with
   | nil=>exact absurd o.length k40_
   | cons y rest=>exact ⟨y,rest,rfl⟩
  rw [G] at o;have hy:=Zq1 o M.out;subst hy;have xw:=I.out.2 m o.mem;have xn:Hid (Rest adj dst l [m] m):=hid ⟨src,n,rest,o,G⟩;obtain ⟨x,rfl⟩:∃ x:Nat,m=(x:Int):=⟨m.toNat,y40_⟩;have Q:x<adj.length:=y40_;have d1:¬ (x:Int)<0:=y40_;have x9:(d.alloc (.cells #[.int .i64 (x:Int)] 3)).ownsRow d.heap.size 3 1 (.slice (some ⟨d.heap.size,0,none⟩) 1 1) [(x:Int)].length (ints [(x:Int)]) :=
   ⟨rfl,.inr ⟨d.heap.size,1,_,rfl,le_refl _,heap_alloc_new d _,le_refl _,q41_,rfl,rfl⟩⟩
  have xj:=hid x9;have xf:Hid (Below d.heap.size d (d.alloc (.cells #[.int .i64 (x:Int)] 3))):=hid ((Below.refl _ d).alloc (le_refl _) _);have xp:1≤l.length:=by rw [G];simp
  clear o xw x9 G M K;go_wp2
  go_loopw [8,9] (fun vx H wr=>∃ (x:Nat) (out:List Int),vx=.int .i64 (x:Int)∧x<adj.length∧out.length≤l.length∧lenOf H=out.length∧Hid (Rest adj dst l out (x:Int)∧wr.ownsRow d.heap.size 3 1 H out.length (ints out)∧Below d.heap.size d wr)) (fun _ H _=>l.length - lenOf H)
  case atStart=>exact ⟨x,[(x:Int)],rfl,Q,xp,rfl,xn.out,xj.out,xf.out⟩
  case round =>
   obtain ⟨x,out,rfl,Q,y3,y1,j⟩:=hrel;have D:=hid (Z0_ U.out (le_refl _) (j.out.2.2.mono (le_refl _)));have xv:=j.out.2.2.size;rcases hh:hasB dst (x:Int) with _ | _
   ·have J:=hid hh
    have x8:(x:Int)∉dst:=fun h=>by
     rw [(Ye2 r.out.1 _).2 h] at hh;cases hh
    have xi:=hid x8;have y7:(x:Int)<(adj.length:Int):=y40_;clear hh x8
    go_wp2_with fail
    refine (Yu7 _ dst (x:Int) _ (B.out.up D.out) y40_).mono ?_;rintro e w6 ⟨rfl,g⟩;rw [J.out];have s:=hid (Z0_ D.out (le_refl _) g);have V:=hid (j.out.2.2.trans (g.mono xv));have L:=hid (World.ownsRow.kept j.out.2.1 (Z7_ g none) j45_);obtain ⟨xy,ua,xo,xq,xd⟩:=(E.out.up s.out).read x Q;subst xo;have xm:=hid xd;clear g xd
    go_wp2_with fail
    refine (Zh9 p.out _ _ _ (adj.getD x []) dst (p.out.2 x) r.out _ (E.out.up s.out) xm.out (B.out.up s.out)).mono ?_;rintro e w7 ⟨z,rfl,hz,N⟩;have x7:=j.out.1.next xi.out (b:=z) (by rw [Int.toNat_natCast];exact hz);rw [Int.toNat_natCast] at x7;obtain ⟨xb,y4,xc⟩:=x7;have xx:=(p.out.2 x).2 z xc;obtain ⟨q,rfl⟩:∃ q:Nat,z=(q:Int):=⟨z.toNat,y40_⟩;have xs:q<adj.length:=y40_;have xt:d.heap.size≤w6.heap.size:=V.out.size;have W:=hid (V.out.trans (N.mono xt));have Y:=hid (World.ownsRow.kept L.out (Z7_ N none) j45_);have xl:=hid xb;have xu:d.heap.size≤w7.heap.size:=W.out.size;clear hz N xb xc xx xq
    go_wp2_with (at_builtin;refine Z5_ rfl _ _ rfl d.heap.size _ _ _ out [(q:Int)] rfl rfl (World.ownsRow.alloc Y.out _) (Row.lit1 _ (q:Int)) y40_ k40_ x41_ ?_)
    intro R w8 P x5;have xa:w8.ownsRow d.heap.size 3 1 R (out ++ [(q:Int)]).length (ints (out ++ [(q:Int)])):=by rw [List.length_append];exact P
    have x4:Below d.heap.size d w8:=(W.out.alloc xu _).grown x5 x41_ (fun i hi=>(World.ownsRow.lt Y.out i hi).1);have xz:lenOf R=out.length+1:=by
     rcases P.2 with ⟨_,h0⟩ | ⟨_,_,_,hv,_⟩
     ·simp at h0
     ·rw [hv];simp [lenOf]
    have xk:=hid xa;have xg:=hid x4;clear P xa x5 x4;go_wp2
    go_roundw
    case rel=>exact ⟨q,out ++ [(q:Int)],rfl,xs,by rw [List.length_append];simp;omega,by rw [List.length_append];simp;omega,xl.out,xk.out,xg.out⟩
    case measure =>
     change l.length - lenOf R<l.length - lenOf _;omega
   ·have J:=hid hh
    have x6:(x:Int)∈dst:=(Ye2 r.out.1 _).1 hh;have HE:=hid (j.out.1.end_ x6);clear hh x6
    go_wp2_with fail
    refine (Yu7 _ dst (x:Int) _ (B.out.up D.out) y40_).mono ?_;rintro e w6 ⟨rfl,g⟩;rw [J.out];have s:=hid (Z0_ D.out (le_refl _) g);have L:=hid (World.ownsRow.kept j.out.2.1 (Z7_ g none) j45_);clear g;go_wp2
    go_ret2
    exact ⟨_,rfl,by rw [← HE.out];exact Row.of_own L.out rfl,s.out⟩
end Go.Proofs.YtigobiacbficaaaGreatDoor.Wp
