/- The document's R7 over digraphs that may be: May, points, near and steps, walked (without the program's search; gen_vr7.py). The document's R7 over digraphs that may be: least, From and Path, walked (without the program's search; gen_vr7.py). -/
import Derived.Test.YtheeajnkiniopaaGreatDoorVReach
import Derived.Test.YtheeajnkiniopaaGreatDoorZA
import Derived.Test.YtheeajnkiniopaaGreatDoorX0A
import Derived.Test.YtheeajnkiniopaaGreatDoorX0B
set_option maxHeartbeats 8000000
set_option maxRecDepth 1000000
open Go.Lib (hid)
open Nat (le_refl)
namespace Go.Proofs.YtheeajnkiniopaaGreatDoor.Wp
open Go Go.RowKit
theorem Zr7 (v:Value) (l:List Int) (b:Bool) (h:mayB l=b) (w:World) (hr:Row w w.heap.size v l):Calls Tryz.prog 52 #[v] w (Says w b):=q25_
def ptB (right:Int) (l:List Int):Bool:=mayB l && (decide (l.length=0) || decide (l.getD (l.length - 1) 0<right))
theorem Jz8 {right:Int} {l:List Int} (h:mayB l=false):ptB right l=false:=by simp [ptB,h]
theorem Vn6 {right:Int} {l:List Int} (h:mayB l=true) (c:l.length=0):ptB right l=true:=by simp [ptB,h,c]
theorem Vj6 {right x:Int} {l:List Int} (h:mayB l=true) (c:0<l.length) (hx:l.getD (l.length - 1) 0=x):ptB right l=decide (x<right):=by
 unfold ptB;exact x23_
def digB (adj:List (List Int)):Bool:=decide (adj.length≤4096) && adj.all (ptB adj.length)
theorem digB_off {adj:List (List Int)} (h:4096<(adj.length:Int)):digB adj=false:=k27_
theorem digB_miss {adj:List (List Int)} {i:Nat} (hi:i<adj.length) (h:ptB adj.length (adj.getD i [])=false):digB adj=false:=by
 unfold digB;exact z4_
theorem digB_all {adj:List (List Int)} (h3:¬ 4096<(adj.length:Int)) (h:∀ i,i<adj.length→ptB adj.length (adj.getD i [])=true):digB adj=true:=k35_
theorem Vn7 {n:Nat} {l:List Int} (h:ptB n l=true):PtsP n l:=by
 unfold ptB at h;rw [Bool.and_eq_true,mayB_iff] at h;obtain ⟨⟨h1,c⟩,h3⟩:=h;refine ⟨⟨h1,c⟩,fun x hx=>⟨(c x hx).1,?_⟩⟩;exact q5_
theorem Zr8 {n:Nat} {l:List Int} (h:PtsP n l):ptB n l=true:=by
 unfold ptB;rw [Bool.and_eq_true,mayB_iff];refine ⟨h.1,?_⟩;rcases Nat.eq_zero_or_pos l.length with c | c
 ·rw [decide_eq_true c];rfl
 ·rw [Bool.or_eq_true]
  right;refine decide_eq_true ?_;rw [show l.getD (l.length - 1) 0=l[l.length - 1]'q40_ by simp [List.getD,show l.length - 1<l.length by omega]];exact (h.2 _ (List.getElem_mem _)).2
theorem digB_dig {adj:List (List Int)} (h:digB adj=true):DigP adj:=by
 unfold digB at h;rw [Bool.and_eq_true,decide_eq_true_iff,List.all_eq_true] at h;refine ⟨h.1,fun x=>?_⟩;rcases Nat.lt_or_ge x adj.length with c | c
 ·rw [show adj.getD x []=adj[x] by simp [List.getD,c]]
  exact Vn7 (h.2 _ (List.getElem_mem c))
 ·rw [List.getD_eq_getElem?_getD,List.getElem?_eq_none c]
  exact ⟨⟨List.Pairwise.nil,fun y d=>by simp at d⟩,fun y d=>by simp at d⟩
theorem Yp3 {adj:List (List Int)} (h:DigP adj):digB adj=true:=digB_all (by have:=h.1;omega) fun i _=>Zr8 (h.2 i)
theorem Yj5 (n:Nat) (v:Value) (l:List Int) (w:World) (r:Row w w.heap.size v l) :
  Calls Tryz.prog 72 #[v,.int .i64 n] w (Says w (ptB n l)):=by
 have g:=hid r;obtain ⟨A,c,rfl,hcap,q⟩:=r;have u:=hid q;have B:(l.length:Int)≤9223372036854775807:=x6_;clear q hcap;rcases hm:mayB l with _ | _
 ·have d:=hid hm
  clear hm;rw [Jz8 d.out]
  go_enter Tryz.func72,Tryz.ntmps72
  go_wp2_with fail
  refine (Zr7 _ l false d.out _ g.out).mono ?_;exact k37_
 ·have d:=hid hm
  clear hm;by_cases j:l.length=0
  ·rw [Vn6 d.out j]
   have z:l=[]:=List.eq_nil_of_length_eq_zero j;subst z
   go_enter Tryz.func72,Tryz.ntmps72
   go_wp2_with fail
   refine (Zr7 _ [] true d.out _ g.out).mono ?_;exact k37_
  ·obtain ⟨x,m⟩:∃ x,l.getD (l.length - 1) 0=x:=⟨_,rfl⟩
   obtain ⟨al,y,halb,h⟩:=u.out (l.length - 1) q40_;have o:=hid (Vj6 (right:=(n:Int)) d.out q40_ m);rw [m] at h;subst y;obtain ⟨L,k⟩:∃ L,l.length=L:=⟨_,rfl⟩;rw [k] at h B j g;have hL0:¬ ((L:Int)=0):=q40_;have C:(0:Int)<(L:Int):=q40_;have D:(1:Int)≤(L:Int):=q40_;have E:IntKind.i64.wrap ((L:Int) - 1)=(L:Int) - 1:=k40_;have F:(0:Int)≤(L:Int) - 1:=q40_;have G:(L:Int) - 1<(L:Int):=q40_;have H:((L:Int) - 1).toNat=L - 1:=q40_;have Hcx:=hid h;rw [k];clear m h k;by_cases s:x<(n:Int)
   ·rw [o.out,decide_eq_true s]
    go_enter Tryz.func72,Tryz.ntmps72
    go_wp2_with fail
    refine (Zr7 _ l true d.out _ g.out).mono ?_;exact x38_
   ·rw [o.out,decide_eq_false s]
    go_enter Tryz.func72,Tryz.ntmps72
    go_wp2_with fail
    refine (Zr7 _ l true d.out _ g.out).mono ?_;exact y6_
theorem H0_ (n:Nat) (v:Value) (l:List Int) (b:Bool) (h:ptB n l=b) (w:World) (c:Row w w.heap.size v l) :
  Calls Tryz.prog 72 #[v,.int .i64 n] w (Says w b):=by
 subst h;exact Yj5 n v l w c
theorem Xm2 (v:Value) (adj:List (List Int)) (w:World) (E:Rows2 w w.heap.size v adj) :
  Calls Tryz.prog 71 #[v] w (Says w (digB adj)):=by
 obtain ⟨A,c,rfl,hcap,m⟩:=E;have I:(adj.length:Int)≤9223372036854775807:=x6_;have y:=hid m;clear m
 go_enter Tryz.func71,Tryz.ntmps71
 go_wp2
 go_loopw [3] (fun d wr=>∃ i:Nat,d=.int .i64 i∧i≤adj.length∧Below w.heap.size w wr∧∀ j,j<i→ptB adj.length (adj.getD j [])=true) (fun d _=>adj.length - (intOf d).toNat)
 case atStart=>exact ⟨0,rfl,Nat.zero_le _,Below.refl _ _,fun j q=>absurd q (Nat.not_lt_zero _)⟩
 case round =>
  obtain ⟨i,rfl,H,k,s⟩:=hrel;have Hbr:=hid k;have Hok:=hid s;clear k s;by_cases r:i<adj.length
  ·have J:(i:Int)<(adj.length:Int):=by omega
   obtain ⟨B,u,C,hab,o,x⟩:=y.out i r;subst C;have G:=(Hbr.out.cell (p:=B.add i) k41_).trans o;have g:=hid ((x.below Hbr.out).mono Hbr.out.size);have z:=hid (fun h=>digB_miss r h);have Hnext:Hid (ptB adj.length (adj.getD i [])=true→∀ j,j<i+1→ptB adj.length (adj.getD j [])=true):=hid fun h j q=>q11_;clear o hab Hok x;generalize adj.getD i []=l at *
   rcases hm:ptB adj.length l with _ | _
   ·have Hm:=hid hm
    rw [z.out hm];clear hm
    go_wp2_with fail
    refine (H0_ adj.length _ l false Hm.out _ g.out).mono ?_;exact j37_
   ·have Hm:=hid hm
    clear hm
    go_wp2_with fail
    refine (H0_ adj.length _ l true Hm.out _ g.out).mono ?_;exact j11_
  ·have D:i=adj.length:=by omega
   subst D;by_cases F:(adj.length:Int)≤4096
   ·have Hyes:=hid (digB_all (adj:=adj) q40_ Hok.out)
    exact z7_
   ·have Hno:=hid (digB_off (adj:=adj) q40_)
    exact y9_
theorem Yp4 (v:Value) (adj:List (List Int)) (b:Bool) (h:digB adj=b) (w:World) (c:Rows2 w w.heap.size v adj) :
  Calls Tryz.prog 71 #[v] w (Says w b):=by
 subst h;exact Xm2 v adj w c
theorem Vn8 {l:List Int} {x:Int} (h:mayB l=false):hasB l x=false:=by unfold hasB;rw [h];rfl
theorem Vj7 {l:List Int} {x:Int} (h:mayB l=true):hasB l x=l.contains x:=by unfold hasB;rw [h];rfl
theorem Yp5 (v:Value) (l:List Int) (x:Int) (w:World) (m:Row w w.heap.size v l) (hl:l.length≤1048576) :
  Calls Tryz.prog 74 #[v,.int .i64 x] w (Says w (hasB l x)):=by
 have g:=hid m;clear m;rcases hm:mayB l with _ | _
 ·have c:=hid (Vn8 (x:=x) hm)
  go_enter Tryz.func74,Tryz.ntmps74
  go_wp2_with fail
  refine (Zz4 v l w g.out q40_).mono ?_;rintro e o ⟨rfl,d⟩;rw [hm];go_wp2;go_ret;exact X7_ c.out rfl d
 ·have c:=hid (Vj7 (x:=x) hm)
  obtain ⟨j,k⟩:∃ j,j=l.contains x:=⟨_,rfl⟩;have h:=hid (Xq4 v l x w.heap.size);rw [← k] at c h;clear k
  go_enter Tryz.func74,Tryz.ntmps74
  go_wp2_with fail
  refine (Zz4 v l w g.out q40_).mono ?_;rintro e o ⟨rfl,d⟩;rw [hm]
  go_wp2_with fail
  refine (h.out o (g.out.below d) q40_).mono ?_;rintro e p ⟨rfl,rfl⟩;go_wp2;go_ret;exact X7_ c.out rfl d
theorem Rows2.read {w:World} {B:Nat} {A:Option Addr} {n c:Nat} {adj:List (List Int)} (h:Rows2 w B (.slice A n c) adj) (x:Nat) (o:x<adj.length):∃ (d:Addr) (e:Value),A=some d∧w.cell? (d.add x)=some e∧Row w B e (adj.getD x []):=by
 obtain ⟨p,c3,f,_,k⟩:=h;injection f with e7 e8 e9;subst e7;obtain ⟨d,e,g,_,j,m⟩:=k x o;exact ⟨d,e,g,j,m⟩
theorem Row.readl {w:World} {B:Nat} {A:Option Addr} {n c:Nat} {l:List Int} (h:Row w B (.slice A n c) l) (k:Nat) (j:k<l.length):∃ d:Addr,A=some d∧w.cell? (d.add k)=some (.int .i64 (l.getD k 0)):=by
 obtain ⟨m,c',e,_,hc⟩:=h;injection e with e1 e2 e3;subst e1;obtain ⟨d,f,_,g⟩:=hc k j;exact ⟨d,f,g⟩
theorem Vd0 {n:Nat} {l:List Int} (h:PtsP n l) {k:Nat} (c:k<l.length):∃ x:Nat,l.getD k 0=(x:Int)∧x<n:=by
 have d:l.getD k 0∈l:=by
  rw [show l.getD k 0=l[k] by simp [List.getD,c]];exact List.getElem_mem c
 have:=h.2 _ d;exact ⟨(l.getD k 0).toNat,q40_,q40_⟩
section
variable {adj:List (List Int)} (hd:DigP adj)
include hd
theorem Vj8 (x:Nat):(adj.getD x []).length≤4096:=by
 have:=H9_ (n:=adj.length) (hd.2 x);have:=hd.1;omega
theorem Zl1 (v u:Value) (l:List Int) (hl:PtsP adj.length l) (w:World) (q:Rows2 w w.heap.size v adj) (p:Row w w.heap.size u l) :
  Calls Tryz.prog 75 #[v,u] w (Gives w (nearL adj l)):=by
 have D:=hid q;have j:=hid p;have h:=hid hd;have m:=hid hl;have L:=hid hd.1;have Q:=H9_ hl;have R:=hd.1;obtain ⟨A,c,rfl,_⟩:=q;obtain ⟨K,cl,rfl,_⟩:=p;clear hd hl
 go_enter Tryz.func75,Tryz.ntmps75
 go_wp2
 go_loopw [5,6] (fun J g wr=>∃ k:Nat,g=.int .i64 (k:Int)∧k≤l.length∧Hid (Row wr wr.heap.size J (nearK adj l k)∧Below w.heap.size w wr)) (fun _ g _=>l.length - (intOf g).toNat)
 case atStart=>exact ⟨0,rfl,Nat.zero_le _,j.out,Below.refl _ _⟩
 case round =>
  obtain ⟨k,rfl,hk,HS⟩:=hrel;by_cases hlt:k<l.length
  ·have P:(k:Int)<(l.length:Int):=by omega
   obtain ⟨x,d,I⟩:=Vd0 m.out hlt;have S:(x:Int)<(adj.length:Int):=q40_;obtain ⟨M,G,hc⟩:=(j.out.up HS.out.2).readl k hlt;obtain ⟨N,T,H,O,s⟩:=(D.out.up HS.out.2).read x I;subst G H;rw [d] at hc;have F:=hid d;have E:=hid s;have B:Hid ((nearK adj l k).length≤1048576):=hid (by
    have:=H9_ (Ze2 h.out m.out k hk).1;omega)
   have C:Hid ((adj.getD x []).length≤1048576):=hid (by have:=Vj8 h.out x;omega);clear d s
   go_wp2_with fail
   refine (B3_ _ _ (nearK adj l k) (adj.getD x []) _ HS.out.1 E.out B.out C.out).mono ?_;rintro e V ⟨U,rfl,r,o⟩;have y:=hid r;have z:=hid (Z0_ HS.out.2 (le_refl _) o);clear r o;go_wp2
   go_roundw
   case rel=>exact ⟨k+1,x41_,q40_,by unfold nearK;rw [F.out,Int.toNat_natCast];exact y.out,z.out⟩
   exact mz_
  ·have hke:k=l.length:=by omega
   exact q26_
theorem Yg5 (v vt:Value) (dst:List Int) (q:PtsP adj.length dst) (x:Nat) (hx:x<adj.length) (w:World) (O:Rows2 w w.heap.size v adj) (M:Row w w.heap.size vt dst) :
  Calls Tryz.prog 98 #[v,.int .i64 (x:Int),vt] w fun e w'=>∃ s:Int,e=.returned (.int .i64 s)∧I0_ adj dst (x:Int) s∧Below w.heap.size w w':=by
 have HR:=hid O;have W:=hid M;have B:=hid hd;have HT:=hid q;have x5:=hd.1;have r:PtsP adj.length [(x:Int)]:=⟨⟨z40_,fun y j=>by rw [List.mem_singleton] at j;rw [j];exact ⟨q40_,q40_⟩⟩,fun y j=>by rw [List.mem_singleton] at j;rw [j];omega⟩;have H:=hid r;have V:Hid (dst.length≤1048576):=hid (by have:=H9_ q;omega);have Z:Hid (∀ k,(0<(meetL (itL adj [(x:Int)] k) dst).length)↔Near adj dst k (x:Int)):=hid (fun k=>by
  have Q:IsSet (itL adj [(x:Int)] k):=(J9_ hd r k).1;have o:=I7_ hd (dst:=dst) k [(x:Int)] r;constructor
  ·intro h
   obtain ⟨z,hz⟩:=List.exists_mem_of_length_pos h;obtain ⟨C,D⟩:=(T1_ Q q.1 z).1 hz;obtain ⟨y,j,p⟩:=o.1 ⟨z,C,D⟩;rw [List.mem_singleton] at j;rw [← j];exact p
  ·intro h
   obtain ⟨z,C,D⟩:=o.2 ⟨_,z40_,h⟩;exact List.length_pos_of_mem ((T1_ Q q.1 z).2 ⟨C,D⟩))
 have S:Hid (∀ k,Near adj dst k (x:Int)→∃ m,m≤adj.length∧Near adj dst m (x:Int)):=hid (fun k N=>by
  obtain ⟨m,o,_,E⟩:=Ze3 hd (v:=(x:Int)) q40_ N;exact ⟨m,o,E⟩)
 have X:Hid (Row (w.alloc (.cells #[.int .i64 (x:Int)] 3)) (w.alloc (.cells #[.int .i64 (x:Int)] 3)).heap.size (.slice (some ⟨w.heap.size,0,none⟩) 1 1) [(x:Int)]):=hid (Row.lit1 w (x:Int)).here;have T:Hid (Below w.heap.size w (w.alloc (.cells #[.int .i64 (x:Int)] 3))):=hid ((Below.refl _ w).alloc (le_refl _) _);obtain ⟨A,c,rfl,_⟩:=O;obtain ⟨At,ct,rfl,_⟩:=M;clear hd q r
 go_enter Tryz.func98,Tryz.ntmps98
 go_wp2
 go_loopw [7,8] (fun vo G wr=>∃ k:Nat,G=.int .i64 (k:Int)∧k≤adj.length+1∧Hid (Row wr wr.heap.size vo (itL adj [(x:Int)] k)∧Below w.heap.size w wr∧∀ m,m<k→¬ Near adj dst m (x:Int))) (fun _ G _=>adj.length+1 - (intOf G).toNat)
 case atStart=>exact ⟨0,rfl,Nat.zero_le _,X.out,T.out,fun m d=>by omega⟩
 case round =>
  obtain ⟨k,rfl,N,g⟩:=hrel;by_cases x4:k≤adj.length
  ·have x2:(k:Int)≤(adj.length:Int):=by omega
   have Y:Hid ((itL adj [(x:Int)] k).length≤1048576):=hid (by
    have:=H9_ (J9_ B.out H.out k);omega)
   go_wp2_with fail
   refine (Yb0 _ _ (itL adj [(x:Int)] k) dst _ g.out.1 (W.out.up g.out.2.1) Y.out V.out).mono ?_;rintro e w5 ⟨v5,rfl,x3,F⟩;obtain ⟨A5,c5,rfl,-⟩:=x3;have x0:=hid (g.out.1.up F);have u:=hid (Z0_ g.out.2.1 (le_refl _) F);have d:=Z.out k;obtain ⟨L,J⟩:∃ L,(meetL (itL adj [(x:Int)] k) dst).length=L:=⟨_,rfl⟩;rw [J] at d ⊢;clear F J;by_cases I:0<L
   ·have p:=hid (d.1 I)
    have x1:(0:Int)<(L:Int):=q40_;clear d;go_wp2;go_ret;exact ⟨_,rfl,.inl ⟨k,rfl,p.out,g.out.2.2⟩,u.out⟩
   ·have p:=hid (fun h=>I (d.2 h))
    have x1:¬ (0:Int)<(L:Int):=q40_;clear d
    go_wp2_with fail
    refine (Zl1 B.out _ _ (itL adj [(x:Int)] k) (J9_ B.out H.out k) _ (HR.out.up u.out) x0.out).mono ?_;rintro e w6 ⟨v6,rfl,P,K⟩;have R:=hid P;have U:=hid (Z0_ u.out (le_refl _) K);clear P K;go_wp2
    go_roundw
    case rel =>
     refine ⟨k+1,x41_,q40_,R.out,U.out,fun m d=>?_⟩;by_cases e:m=k
     ·rw [e];exact p.out
     ·exact g.out.2.2 m q40_
    case measure=>simp [intOf];omega
  ·have x2:¬ (k:Int)≤(adj.length:Int):=by omega
   go_wp2;go_ret;exact ⟨_,rfl,.inr ⟨rfl,fun m d=>by
    obtain ⟨m',o,E⟩:=S.out m d;exact g.out.2.2 m' q40_ E⟩,g.out.2.1⟩
end
open Go Go.RowKit
theorem Vj9 {adj:List (List Int)} {dst S:List Int} {i:Nat} {b:Int} (c:PtsP adj.length S) (h:J5_ adj dst S i b):b=-1∨(0≤b∧b<(adj.length:Int)):=by
 rcases h with ⟨e,_⟩ | ⟨_,h,_⟩
 ·exact .inl e
 ·exact .inr (c.2 b (List.mem_of_mem_take h))
section
variable {adj:List (List Int)} (hd:DigP adj)
include hd
theorem Zg0 (v Q vt:Value) (S dst:List Int) (B:PtsP adj.length S) (F:PtsP adj.length dst) (w:World) (E:Rows2 w w.heap.size v adj) (hl:Row w w.heap.size Q S) (C:Row w w.heap.size vt dst) :
  Calls Tryz.prog 73 #[v,Q,vt] w fun e w'=>∃ b:Int,e=.returned (.int .i64 b)∧J5_ adj dst S S.length b∧Below w.heap.size w w':=by
 have HR:=hid E;have HF:=hid C;have z:=hid hl;have HD:=hid hd;have HT:=hid F;have p:=hid B;have x8:=hd.1;have x5:=H9_ B;have I:=hid (fun x (o:x<adj.length) W (J:Below w.heap.size w W)=>Yg5 hd v vt dst F x o W (E.up J) (C.up J));obtain ⟨A,c,rfl,_⟩:=E;obtain ⟨At,ct,rfl,_⟩:=C;obtain ⟨Al,cl,rfl,_⟩:=hl;clear hd F B
 go_enter Tryz.func73,Tryz.ntmps73
 go_wp2
 go_loopw [7,8] (fun vb G wr=>∃ (i:Nat) (b:Int),vb=.int .i64 b∧G=.int .i64 (i:Int)∧i≤S.length∧Hid (J5_ adj dst S i b∧Below w.heap.size w wr)) (fun _ G _=>S.length - (intOf G).toNat)
 case atStart=>exact ⟨0,-1,rfl,rfl,Nat.zero_le _,Zk0,Below.refl _ _⟩
 case round =>
  obtain ⟨i,b,rfl,rfl,Z,d⟩:=hrel;by_cases g:i<S.length
  ·have x7:(i:Int)<(S.length:Int):=by omega
   obtain ⟨x,o,x3⟩:=Vd0 p.out g;obtain ⟨ad,V,hc⟩:=(z.out.up d.out.2).readl i g;subst V;rw [o] at hc;have m:=hid o;clear o
   go_wp2_with fail
   refine (I.out x x3 _ d.out.2).mono ?_;rintro e w5 ⟨s,rfl,hs,L⟩;have k:=hid (Z0_ d.out.2 (le_refl _) L);have x4:=hid hs;have r:Hid (I0_ adj dst (S.getD i 0) s):=hid (by rw [m.out];exact hs);obtain ⟨R,j,O⟩:=(z.out.up k.out).readl i g;injection j with j;subst j;rw [m.out] at O;clear hs L hc;by_cases x1:s<0
   ·have T:decide (0≤s)=false:=decide_eq_false q40_
    have h:=hid (Ze4 g d.out.1 r.out x1);go_wp2
    go_roundw
    case rel=>exact ⟨i+1,b,rfl,x41_,q40_,h.out,k.out⟩
    exact mz_
   ·have T:decide (0≤s)=true:=decide_eq_true q40_
    have D:0≤s:=q40_;rcases Vj9 p.out d.out.1 with hb | ⟨K,x6⟩
    ·have h:=hid (Ze5 g d.out.1 hb (fun y hy=>(p.out.2 y (List.mem_of_mem_take hy)).1) r.out D)
     have X:b<0:=q40_;have U:decide (b<0)=true:=decide_eq_true X;clear hb;go_wp2
     go_roundw
     case rel=>exact ⟨i+1,(x:Int),rfl,x41_,q40_,by rw [← m.out];exact h.out,k.out⟩
     exact mz_
    ·obtain ⟨q,rfl⟩:∃ q:Nat,b=(q:Int):=⟨b.toNat,q40_⟩
     have x2:q<adj.length:=q40_;have U:decide ((q:Int)<0)=false:=decide_eq_false q40_;have d3:¬ (q:Int)<0:=q40_
     go_wp2_with fail
     refine (I.out q x2 _ k.out).mono ?_;rintro e w6 ⟨sb,rfl,P,M⟩;have u:=hid (Z0_ k.out (le_refl _) M);have H:=hid P;obtain ⟨R,j,Y⟩:=(z.out.up u.out).readl i g;injection j with j;subst j;rw [m.out] at Y;clear P M O;by_cases N:s<sb
     ·have h:=hid (Zv6 g d.out.1 K H.out r.out D N)
      go_wp2
      go_roundw
      case rel=>exact ⟨i+1,(x:Int),rfl,x41_,q40_,by rw [← m.out];exact h.out,u.out⟩
      exact mz_
     ·have h:=hid (Zk1 p.out.1.1 g d.out.1 K H.out r.out D N)
      go_wp2
      go_roundw
      case rel=>exact ⟨i+1,(q:Int),rfl,x41_,q40_,h.out,u.out⟩
      exact mz_
  ·have x0:i=S.length:=by omega
   clear g Z;subst x0;go_wp2;go_ret;exact ⟨_,rfl,d.out.1,d.out.2⟩
end
theorem Xy6 (v vf:Value) (adj:List (List Int)) (src:List Int) (h:DigP adj) (j:PtsP adj.length src) (w:World) (H:Rows2 w w.heap.size v adj) (E:Row w w.heap.size vf src) :
  Calls Tryz.prog 40 #[v,vf] w (Gives w (itL adj src adj.length)):=by
 have y:=hid H;have x:=hid E;obtain ⟨A,c,rfl,_⟩:=H;obtain ⟨R,cl,rfl,_⟩:=E;have T:=h.1;have U:=H9_ j;have g:=hid h;have q:=hid j;clear h j
 go_enter Tryz.func40,Tryz.ntmps40
 go_wp2_with fail
 refine (Yp4 _ adj true (Yp3 g.out) _ y.out).mono ?_;rintro e W ⟨rfl,z⟩;have r:=hid z;clear z
 go_wp2_with fail
 refine (H0_ adj.length _ src true (Zr8 q.out) _ (x.out.up r.out)).mono ?_;rintro e d ⟨rfl,B⟩;have s:=hid (Z0_ r.out (le_refl _) B);have m:(d.alloc (.cells #[] 3)).ownsRow d.heap.size 3 1 (.slice (some ⟨d.heap.size,0,none⟩) 0 0) 0 [] :=
  World.ownsRow_made d #[] 0 (le_refl _) y41_ rfl
 have u:Hid (Below d.heap.size d (d.alloc (.cells #[] 3))):=hid ((Below.refl _ d).alloc (le_refl _) _);have M:=hid ((x.out.up s.out).up u.out);clear B
 go_wp2_with (at_builtin;refine Z4_ rfl _ _ rfl d.heap.size _ _ _ [] src rfl rfl m M.out z40_ q40_ z40_ ?_)
 intro P p G F;have C:Below d.heap.size d p:=u.out.grown F z40_ (fun i O=>(World.ownsRow.lt m i O).1);have N:Hid (Row p p.heap.size P src):=hid (Row.of_own G z40_);have K:=hid (Z0_ s.out (le_refl _) C);clear G F C m;go_wp2
 go_loopw [5,6] (fun Q o wr=>∃ k:Nat,o=.int .i64 (k:Int)∧k≤adj.length∧Hid (Row wr wr.heap.size Q (itL adj src k)∧Below w.heap.size w wr)) (fun _ o _=>adj.length - (intOf o).toNat)
 case atStart=>exact ⟨0,rfl,Nat.zero_le _,N.out,K.out⟩
 case round =>
  obtain ⟨k,rfl,hk,HS⟩:=hrel;by_cases hlt:k<adj.length
  ·have S:(k:Int)<(adj.length:Int):=by omega
   go_wp2_with fail
   refine (Zl1 g.out _ _ (itL adj src k) (J9_ g.out q.out k) _ (y.out.up HS.out.2) HS.out.1).mono ?_;rintro e X ⟨V,rfl,I,D⟩;have J:=hid I;have L:=hid (Z0_ HS.out.2 (le_refl _) D);clear I D;go_wp2
   go_roundw
   case rel=>exact ⟨k+1,x41_,q40_,J.out,L.out⟩
   exact mz_
  ·have hke:k=adj.length:=by omega
   exact q26_
structure Rest (adj:List (List Int)) (dst l out:List Int) (x:Int):Prop where
 ex:∃ S m rest,Greedy adj dst S m (x :: rest)∧l=out ++ rest
theorem Rest.end_ {adj:List (List Int)} {dst l out:List Int} {x:Int} (h:Rest adj dst l out x) (d:x∈dst):out=l:=by
 obtain ⟨S,m,rest,c,e⟩:=h.ex;cases c with
 | stop=>rw [e,List.append_nil]
 | step _ _ n _ h1 _ h3 _ _=>exact absurd (C6_ (Nat.zero_le n) d) (h3 x h1)
theorem Rest.next {adj:List (List Int)} {dst l out:List Int} {x:Int} (h:Rest adj dst l out x) (d:x∉dst) {b:Int} (hb:J5_ adj dst (adj.getD x.toNat []) (adj.getD x.toNat []).length b):Rest adj dst l (out ++ [b]) b∧out.length+1≤l.length∧b∈adj.getD x.toNat []:=by
 obtain ⟨S,m,rest,c,e⟩:=h.ex;cases c with
 | stop _ _ _ h2 _=>exact absurd h2 d
 | step _ _ n rest h1 h2 h3 h4 c =>
  match rest,c with
  | [],c=>exact absurd c.length z40_
  | y :: rest,c =>
   have f:=Zv7 c hb;subst f;exact ⟨⟨_,_,rest,c,by rw [e,List.append_assoc];rfl⟩,by rw [e,List.length_append,List.length_cons];omega,c.mem⟩
def Yp6 (adj:List (List Int)) (src dst l:List Int) (b:Bool):Prop:=(b=true∧∃ n,Greedy adj dst src n l)∨(b=false∧l=[]∧∀ y∈src,∀ k,¬ Near adj dst k y)
theorem Xy7 {adj:List (List Int)} {src dst l:List Int} {b:Bool} (hd:DigP adj) (hs:PtsP adj.length src) (h:Yp6 adj src dst l b):l.length≤adj.length+1:=by
 rcases h with ⟨_,n,c⟩ | ⟨_,rfl,_⟩
 ·rw [c.length]
  have d:=c.length;cases l with
  | nil=>simp at d
  | cons x l =>
   have e:=hs.2 x c.mem;obtain ⟨m,f,g,h3⟩:=Ze3 hd e (c.near 0 z40_);have:=Nat.lt_or_ge m n;rcases this with h | h
   ·exact absurd h3 (c.none x c.mem m h)
   ·omega
 ·simp
theorem Vq0 {adj:List (List Int)} {dst S:List Int} {b:Int} (h:∀ y∈S,∀ k,¬ Near adj dst k y) (hb:J5_ adj dst S S.length b):b=-1:=by
 rcases hb with ⟨e,_⟩ | ⟨k,c,d,_⟩
 ·exact e
 ·exact absurd d (h b (List.mem_of_mem_take c) k)
theorem Zl2 (adj:List (List Int)) (src dst l:List Int) (b:Bool) (F:DigP adj) (G:PtsP adj.length src) (h3:PtsP adj.length dst) (P:Yp6 adj src dst l b) (v vf vt:Value) (w:World) (hr:Rows2 w w.heap.size v adj) (hf:Row w w.heap.size vf src) (ht:Row w w.heap.size vt dst) :
  Calls Tryz.prog 39 #[v,vf,vt] w fun e w'=>∃ u:Value,e=.returned (.tuple #[u,.bool b])∧Row w' w'.heap.size u l∧Below w.heap.size w w':=by
 have E:=hid hr;have Y:=hid hf;have B:=hid ht;have xi:=hid (Xy7 F G P);have y3:=F.1;have y6:=H9_ G;have y7:=H9_ h3;have y1:=xi.out;have p:=hid F;have J:=hid G;have r:=hid h3;have L:=hid P;obtain ⟨A,c,rfl,_⟩:=hr;obtain ⟨Al,cl,rfl,_⟩:=hf;obtain ⟨At,ct,rfl,_⟩:=ht;clear F G h3 P
 go_enter Tryz.func39,Tryz.ntmps39
 go_wp2_with fail
 refine (Yp4 _ adj true (Yp3 p.out) _ E.out).mono ?_;rintro e w1 ⟨rfl,x1⟩;have T:=hid x1;clear x1
 go_wp2_with fail
 refine (H0_ adj.length _ src true (Zr8 J.out) _ (Y.out.up T.out)).mono ?_;rintro e w2 ⟨rfl,x2⟩;have U:=hid (Z0_ T.out (le_refl _) x2);clear x2
 go_wp2_with fail
 refine (H0_ adj.length _ dst true (Zr8 r.out) _ (B.out.up U.out)).mono ?_;rintro e w3 ⟨rfl,x3⟩;have C:=hid (Z0_ U.out (le_refl _) x3);clear x3
 go_wp2_with fail
 refine (Zg0 p.out _ _ _ src dst J.out r.out _ (E.out.up C.out) (Y.out.up C.out) (B.out.up C.out)).mono ?_;rintro e d ⟨m,rfl,xf,x4⟩;have V:=hid (Z0_ C.out (le_refl _) x4);have N:=hid xf;clear x4 xf;cases b with
 | false =>
  obtain ⟨hl,xs⟩:l=[]∧∀ y∈src,∀ k,¬ Near adj dst k y:=by
   rcases L.out with ⟨e,_⟩ | ⟨_,e,h⟩
   ·cases e
   ·exact ⟨e,h⟩
  subst hl;have hx:m=-1:=Vq0 xs N.out;have d1:m<0:=q40_;clear hx;go_wp2
  go_ret2
  exact ⟨_,rfl,Row.nil_ _ _,V.out⟩
 | true =>
  obtain ⟨n,o⟩:∃ n,Greedy adj dst src n l:=by
   rcases L.out with ⟨_,h⟩ | ⟨e,_⟩
   ·exact h
   ·cases e
  obtain ⟨y,rest,H⟩:∃ y rest,l=y :: rest:=by
   cases l with
   | nil=>exact absurd o.length z40_
   | cons y rest=>exact ⟨y,rest,rfl⟩
  rw [H] at o;have hy:=Zv7 o N.out;subst hy;have xx:=J.out.2 m o.mem;have xo:Hid (Rest adj dst l [m] m):=hid ⟨src,n,rest,o,H⟩;obtain ⟨x,rfl⟩:∃ x:Nat,m=(x:Int):=⟨m.toNat,q40_⟩;have R:x<adj.length:=q40_;have d1:¬ (x:Int)<0:=q40_;have xa:(d.alloc (.cells #[.int .i64 (x:Int)] 3)).ownsRow d.heap.size 3 1 (.slice (some ⟨d.heap.size,0,none⟩) 1 1) [(x:Int)].length (ints [(x:Int)]) :=
   ⟨rfl,.inr ⟨d.heap.size,1,_,rfl,le_refl _,heap_alloc_new d _,le_refl _,q41_,rfl,rfl⟩⟩
  have xk:=hid xa;have xg:Hid (Below d.heap.size d (d.alloc (.cells #[.int .i64 (x:Int)] 3))):=hid ((Below.refl _ d).alloc (le_refl _) _);have xq:1≤l.length:=by rw [H];simp
  clear o xx xa H N L;go_wp2
  go_loopw [8,9] (fun vx I wr=>∃ (x:Nat) (out:List Int),vx=.int .i64 (x:Int)∧x<adj.length∧out.length≤l.length∧lenOf I=out.length∧Hid (Rest adj dst l out (x:Int)∧wr.ownsRow d.heap.size 3 1 I out.length (ints out)∧Below d.heap.size d wr)) (fun _ I _=>l.length - lenOf I)
  case atStart=>exact ⟨x,[(x:Int)],rfl,R,xq,rfl,xo.out,xk.out,xg.out⟩
  case round =>
   obtain ⟨x,out,rfl,R,y4,y2,j⟩:=hrel;have D:=hid (Z0_ V.out (le_refl _) (j.out.2.2.mono (le_refl _)));have xw:=j.out.2.2.size;rcases hh:hasB dst (x:Int) with _ | _
   ·have K:=hid hh
    have x9:(x:Int)∉dst:=fun h=>by
     rw [(Ya3 r.out.1 _).2 h] at hh;cases hh
    have xj:=hid x9;have y8:(x:Int)<(adj.length:Int):=q40_;clear hh x9
    go_wp2_with fail
    refine (Yp5 _ dst (x:Int) _ (B.out.up D.out) q40_).mono ?_;rintro e w6 ⟨rfl,g⟩;rw [K.out];have s:=hid (Z0_ D.out (le_refl _) g);have W:=hid (j.out.2.2.trans (g.mono xw));have M:=hid (World.ownsRow.kept j.out.2.1 (Z7_ g none) y45_);obtain ⟨xz,ua,xp,xr,xe⟩:=(E.out.up s.out).read x R;subst xp;have xn:=hid xe;clear g xe
    go_wp2_with fail
    refine (Zg0 p.out _ _ _ (adj.getD x []) dst (p.out.2 x) r.out _ (E.out.up s.out) xn.out (B.out.up s.out)).mono ?_;rintro e w7 ⟨z,rfl,hz,O⟩;have x8:=j.out.1.next xj.out (b:=z) (by rw [Int.toNat_natCast];exact hz);rw [Int.toNat_natCast] at x8;obtain ⟨xc,y5,xd⟩:=x8;have xy:=(p.out.2 x).2 z xd;obtain ⟨q,rfl⟩:∃ q:Nat,z=(q:Int):=⟨z.toNat,q40_⟩;have xt:q<adj.length:=q40_;have xu:d.heap.size≤w6.heap.size:=W.out.size;have X:=hid (W.out.trans (O.mono xu));have Z:=hid (World.ownsRow.kept M.out (Z7_ O none) y45_);have xm:=hid xc;have xv:d.heap.size≤w7.heap.size:=X.out.size;clear hz O xc xd xy xr
    go_wp2_with (at_builtin;refine Z4_ rfl _ _ rfl d.heap.size _ _ _ out [(q:Int)] rfl rfl (World.ownsRow.alloc Z.out _) (Row.lit1 _ (q:Int)) q40_ z40_ j40_ ?_)
    intro S w8 Q x6;have xb:w8.ownsRow d.heap.size 3 1 S (out ++ [(q:Int)]).length (ints (out ++ [(q:Int)])):=by rw [List.length_append];exact Q
    have x5:Below d.heap.size d w8:=(X.out.alloc xv _).grown x6 j40_ (fun i hi=>(World.ownsRow.lt Z.out i hi).1);have y0:lenOf S=out.length+1:=by
     rcases Q.2 with ⟨_,h0⟩ | ⟨_,_,_,hv,_⟩
     ·simp at h0
     ·rw [hv];simp [lenOf]
    have xl:=hid xb;have xh:=hid x5;clear Q xb x6 x5;go_wp2
    go_roundw
    case rel=>exact ⟨q,out ++ [(q:Int)],rfl,xt,by rw [List.length_append];simp;omega,by rw [List.length_append];simp;omega,xm.out,xl.out,xh.out⟩
    case measure =>
     change l.length - lenOf S<l.length - lenOf _;omega
   ·have K:=hid hh
    have x7:(x:Int)∈dst:=(Ya3 r.out.1 _).1 hh;have HE:=hid (j.out.1.end_ x7);clear hh x7
    go_wp2_with fail
    refine (Yp5 _ dst (x:Int) _ (B.out.up D.out) q40_).mono ?_;rintro e w6 ⟨rfl,g⟩;rw [K.out];have s:=hid (Z0_ D.out (le_refl _) g);have M:=hid (World.ownsRow.kept j.out.2.1 (Z7_ g none) y45_);clear g;go_wp2
    go_ret2
    exact ⟨_,rfl,by rw [← HE.out];exact Row.of_own M.out rfl,s.out⟩
end Go.Proofs.YtheeajnkiniopaaGreatDoor.Wp
