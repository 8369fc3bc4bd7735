/- The document's R7 over digraphs that may be: May, points, near and steps, walked (without the program's search; gen_vr7.py). The document's R7 over digraphs that may be: least, From and Path, walked (without the program's search; gen_vr7.py). -/
import Derived.Test.YteiejkhdonmcdaaGreatDoorVLaw
import Derived.Test.YteiejkhdonmcdaaGreatDoorZA
import Derived.Test.YteiejkhdonmcdaaGreatDoorX0A
import Derived.Test.YteiejkhdonmcdaaGreatDoorX0B
set_option maxHeartbeats 8000000
set_option maxRecDepth 1000000
open Go.Lib (hid)
open Nat (le_refl)
namespace Go.Proofs.YteiejkhdonmcdaaGreatDoor
open Go Go.RowKit
namespace Wp
theorem M8_ (v:Value) (l:List Int) (b:Bool) (h:mayB l=b) (w:World) (hr:Row w w.heap.size v l):Calls Tryz.prog 34 #[v] w (Says w b):=k23_
def ptB (right:Int) (l:List Int):Bool:=mayB l && (decide (l.length=0) || decide (l.getD (l.length - 1) 0<right))
theorem Vr4 {right:Int} {l:List Int} (h:mayB l=false):ptB right l=false:=by simp [ptB,h]
theorem Vh7 {right:Int} {l:List Int} (h:mayB l=true) (c:l.length=0):ptB right l=true:=by simp [ptB,h,c]
theorem Vz4 {right x:Int} {l:List Int} (h:mayB l=true) (c:0<l.length) (hx:l.getD (l.length - 1) 0=x):ptB right l=decide (x<right):=by
 unfold ptB;exact z22_
def digB (adj:List (List Int)):Bool:=decide (adj.length≤4096) && adj.all (ptB adj.length)
theorem Vz5 {adj:List (List Int)} (h:4096<(adj.length:Int)):digB adj=false:=by
 unfold digB;rw [Bool.and_eq_false_iff,decide_eq_false_iff_not];exact .inl q39_
theorem Xh4 {adj:List (List Int)} {i:Nat} (hi:i<adj.length) (h:ptB adj.length (adj.getD i [])=false):digB adj=false:=by
 unfold digB;exact z7_
theorem Ym8 {adj:List (List Int)} (h3:¬ 4096<(adj.length:Int)) (h:∀ i,i<adj.length→ptB adj.length (adj.getD i [])=true):digB adj=true:=by
 unfold digB;rw [Bool.and_eq_true,decide_eq_true_iff,List.all_eq_true];refine ⟨q39_,fun l hl=>?_⟩;obtain ⟨i,c,rfl⟩:=List.mem_iff_getElem.1 hl;have:=h i c
 rwa [show adj.getD i []=adj[i] by simp [List.getD,c]] at this
theorem Xh5 {n:Nat} {l:List Int} (h:ptB n l=true):PtsP n l:=by
 unfold ptB at h;rw [Bool.and_eq_true,mayB_iff] at h;obtain ⟨⟨c,d⟩,h3⟩:=h;refine ⟨⟨c,d⟩,fun x e=>⟨(d x e).1,?_⟩⟩;obtain ⟨m,g,rfl⟩:=List.mem_iff_getElem.1 e;have hl:l[m]≤l.getD (l.length - 1) 0:=by
  rw [show l.getD (l.length - 1) 0=l[l.length - 1]'q39_ by simp [List.getD,show l.length - 1<l.length by omega]];rcases Nat.lt_or_ge m (l.length - 1) with f | j
  ·exact Int.le_of_lt (List.pairwise_iff_getElem.1 c m (l.length - 1) g q39_ f)
  ·have:m=l.length - 1:=by omega
   subst this;exact Int.le_refl _
 rw [decide_eq_false q39_,Bool.false_or,decide_eq_true_iff] at h3;omega
theorem Vh8 {n:Int} {l:List Int} (h:ptB n l=true):IsSet l:=by
 unfold ptB at h;rw [Bool.and_eq_true,mayB_iff] at h;exact h.1
theorem Zs2 {n:Nat} {l:List Int} (h:PtsP n l):ptB n l=true:=by
 unfold ptB;rw [Bool.and_eq_true,mayB_iff];refine ⟨h.1,?_⟩;rcases Nat.eq_zero_or_pos l.length with c | c
 ·rw [decide_eq_true c];rfl
 ·rw [Bool.or_eq_true]
  right;refine decide_eq_true ?_;rw [show l.getD (l.length - 1) 0=l[l.length - 1]'q39_ by simp [List.getD,show l.length - 1<l.length by omega]];exact (h.2 _ (List.getElem_mem _)).2
theorem Vz6 {adj:List (List Int)} (h:digB adj=true):DigP adj:=by
 unfold digB at h;rw [Bool.and_eq_true,decide_eq_true_iff,List.all_eq_true] at h;refine ⟨h.1,fun x=>?_⟩;rcases Nat.lt_or_ge x adj.length with c | c
 ·rw [show adj.getD x []=adj[x] by simp [List.getD,c]]
  exact Xh5 (h.2 _ (List.getElem_mem c))
 ·rw [List.getD_eq_getElem?_getD,List.getElem?_eq_none c]
  exact ⟨⟨List.Pairwise.nil,fun y d=>by simp at d⟩,fun y d=>by simp at d⟩
theorem Za1 {adj:List (List Int)} (h:DigP adj):digB adj=true:=Ym8 (by have:=h.1;omega) fun i _=>Zs2 (h.2 i)
theorem Yj0 (n:Nat) (v:Value) (l:List Int) (w:World) (u:Row w w.heap.size v l) :
  Calls Tryz.prog 58 #[v,.int .i64 n] w (Says w (ptB n l)):=by
 have g:=hid u;obtain ⟨A,c,rfl,hcap,s⟩:=u;have z:=hid s;have F:(l.length:Int)≤9223372036854775807:=j8_;clear s hcap;rcases hm:mayB l with _ | _
 ·have d:=hid hm
  clear hm;rw [Vr4 d.out]
  go_enter Tryz.func58,Tryz.ntmps58
  go_wp2_with fail
  refine (M8_ _ l false d.out _ g.out).mono ?_;rintro e o ⟨rfl,hb1⟩;have Hb1:=hid hb1;exact y32_
 ·have d:=hid hm
  clear hm;by_cases j:l.length=0
  ·rw [Vh7 d.out j]
   have E:l=[]:=List.eq_nil_of_length_eq_zero j;subst E
   go_enter Tryz.func58,Tryz.ntmps58
   go_wp2_with fail
   refine (M8_ _ [] true d.out _ g.out).mono ?_;rintro e o ⟨rfl,hb1⟩;have Hb1:=hid hb1;exact y32_
  ·obtain ⟨x,m⟩:∃ x,l.getD (l.length - 1) 0=x:=⟨_,rfl⟩
   obtain ⟨al,C,halb,h⟩:=z.out (l.length - 1) q39_;have r:=hid (Vz4 (right:=(n:Int)) d.out q39_ m);rw [m] at h;subst C;obtain ⟨L,k⟩:∃ L,l.length=L:=⟨_,rfl⟩;rw [k] at h F j g;have D:¬ ((L:Int)=0):=q39_;have G:(0:Int)<(L:Int):=q39_;have H:(1:Int)≤(L:Int):=q39_;have I:IntKind.i64.wrap ((L:Int) - 1)=(L:Int) - 1:=q40_;have J:(0:Int)≤(L:Int) - 1:=q39_;have K:(L:Int) - 1<(L:Int):=q39_;have M:((L:Int) - 1).toNat=L - 1:=q39_;have q:=hid h;rw [k];clear m h k;by_cases y:x<(n:Int)
   ·rw [r.out,decide_eq_true y]
    go_enter Tryz.func58,Tryz.ntmps58
    go_wp2_with fail
    refine (M8_ _ l true d.out _ g.out).mono ?_;rintro e o ⟨rfl,hb1⟩;have Hb1:=hid hb1;have B:=(hb1.cell (p:=al.add (L - 1)) j42_).trans q.out;exact y32_
   ·rw [r.out,decide_eq_false y]
    go_enter Tryz.func58,Tryz.ntmps58
    go_wp2_with fail
    refine (M8_ _ l true d.out _ g.out).mono ?_;rintro e o ⟨rfl,hb1⟩;have Hb1:=hid hb1;have B:=(hb1.cell (p:=al.add (L - 1)) j42_).trans q.out;clear hb1;go_wp2;go_ret;exact ⟨congrArg (fun b=>Ending.returned (.bool b)) (show ((L:Int)==0 || decide (x<(n:Int)))=false by rw [decide_eq_false q39_,Bool.or_false];exact beq_false_of_ne D),Hb1.out⟩
theorem I0_ (n:Nat) (v:Value) (l:List Int) (b:Bool) (h:ptB n l=b) (w:World) (c:Row w w.heap.size v l) :
  Calls Tryz.prog 58 #[v,.int .i64 n] w (Says w b):=by
 subst h;exact Yj0 n v l w c
theorem Zg0 (v:Value) (adj:List (List Int)) (w:World) (F:Rows2 w w.heap.size v adj) :
  Calls Tryz.prog 24 #[v] w (Says w (digB adj)):=by
 obtain ⟨A,c,rfl,hcap,o⟩:=F;have J:(adj.length:Int)≤9223372036854775807:=j8_;have z:=hid o;clear o
 go_enter Tryz.func24,Tryz.ntmps24
 go_wp2
 go_loopw [3] (fun g wr=>∃ i:Nat,g=.int .i64 i∧i≤adj.length∧Below w.heap.size w wr∧∀ j,j<i→ptB adj.length (adj.getD j [])=true) (fun g _=>adj.length - (intOf g).toNat)
 case atStart=>exact ⟨0,rfl,Nat.zero_le _,Below.refl _ _,fun j r=>absurd r (Nat.not_lt_zero _)⟩
 case round =>
  obtain ⟨i,rfl,I,m,x⟩:=hrel;have Hbr:=hid m;have Hok:=hid x;clear m x;by_cases s:i<adj.length
  ·have K:(i:Int)<(adj.length:Int):=by omega
   obtain ⟨D,u,hA,hab,q,y⟩:=z.out i s;subst hA;have H:=(Hbr.out.cell (p:=D.add i) x41_).trans q;have k:=hid ((y.below Hbr.out).mono Hbr.out.size);have B:=hid (fun h=>Xh4 s h);have C:Hid (ptB adj.length (adj.getD i [])=true→∀ j,j<i+1→ptB adj.length (adj.getD j [])=true):=hid fun h j r=>z14_;clear q hab Hok y;generalize adj.getD i []=l at *
   rcases hm:ptB adj.length l with _ | _
   ·have d:=hid hm
    rw [B.out hm];clear hm
    go_wp2_with fail
    refine (I0_ adj.length _ l false d.out _ k.out).mono ?_;exact q37_
   ·have d:=hid hm
    clear hm
    go_wp2_with fail
    refine (I0_ adj.length _ l true d.out _ k.out).mono ?_;rintro e w1 ⟨rfl,hb1⟩;have Hb1:=hid (Z0_ Hbr.out (le_refl _) hb1);clear hb1;go_wp2
    go_roundw
    case rel=>exact ⟨i+1,j40_,q39_,Hb1.out,C.out d.out⟩
    case measure=>simp [intOf];omega
  ·have E:i=adj.length:=by omega
   subst E;by_cases G:(adj.length:Int)≤4096
   ·have Hyes:=hid (Ym8 (adj:=adj) q39_ Hok.out)
    exact y11_
   ·have Hno:=hid (Vz5 (adj:=adj) q39_)
    exact x10_
theorem Ym9 (v:Value) (adj:List (List Int)) (b:Bool) (h:digB adj=b) (w:World) (c:Rows2 w w.heap.size v adj) :
  Calls Tryz.prog 24 #[v] w (Says w b):=by
 subst h;exact Zg0 v adj w c
theorem Vh9 {l:List Int} {x:Int} (h:mayB l=false):hasB l x=false:=z45_
theorem Vz7 {l:List Int} {x:Int} (h:mayB l=true):hasB l x=l.contains x:=z45_
theorem Yn0 (v:Value) (l:List Int) (x:Int) (w:World) (c:Row w w.heap.size v l) (hl:l.length≤1048576) :
  Calls Tryz.prog 33 #[v,.int .i64 x] w (Says w (hasB l x)):=by
 have Hr:=hid c;clear c;rcases hm:mayB l with _ | _
 ·have Hf:=hid (Vh9 (x:=x) hm)
  exact x6_
 ·have Hf:=hid (Vz7 (x:=x) hm)
  exact z3_
theorem Rows2.read {w:World} {B:Nat} {A:Option Addr} {n c:Nat} {adj:List (List Int)} (h:Rows2 w B (.slice A n c) adj) (x:Nat) (o:x<adj.length):∃ (d:Addr) (e:Value),A=some d∧w.cell? (d.add x)=some e∧Row w B e (adj.getD x []):=by
 obtain ⟨p,c3,f,_,k⟩:=h;injection f with e7 e8 e9;subst e7;obtain ⟨d,e,g,_,j,m⟩:=k x o;exact ⟨d,e,g,j,m⟩
theorem Row.readl {w:World} {B:Nat} {A:Option Addr} {n c:Nat} {l:List Int} (h:Row w B (.slice A n c) l) (k:Nat) (j:k<l.length):∃ d:Addr,A=some d∧w.cell? (d.add k)=some (.int .i64 (l.getD k 0)):=by
 obtain ⟨m,o,e,_,hc⟩:=h;injection e with e1 e2 e3;subst e1;obtain ⟨d,f,_,g⟩:=hc k j;exact ⟨d,f,g⟩
theorem Vj8 {n:Nat} {l:List Int} (h:PtsP n l) {k:Nat} (c:k<l.length):∃ x:Nat,l.getD k 0=(x:Int)∧x<n:=by
 have d:l.getD k 0∈l:=by
  rw [show l.getD k 0=l[k] by simp [List.getD,c]];exact List.getElem_mem c
 have:=h.2 _ d;exact ⟨(l.getD k 0).toNat,q39_,q39_⟩
section
variable {adj:List (List Int)} (hd:DigP adj)
include hd
theorem Vz8 (x:Nat):(adj.getD x []).length≤4096:=by
 have:=G0_ (n:=adj.length) (hd.2 x);have:=hd.1;omega
theorem Zm3 (v u:Value) (l:List Int) (hl:PtsP adj.length l) (w:World) (q:Rows2 w w.heap.size v adj) (p:Row w w.heap.size u l) :
  Calls Tryz.prog 62 #[v,u] w (Gives w (nearL adj l)):=by
 have D:=hid q;have j:=hid p;have h:=hid hd;have m:=hid hl;have K:=hid hd.1;have P:=G0_ hl;have Q:=hd.1;obtain ⟨A,c,rfl,_⟩:=q;obtain ⟨J,cl,rfl,_⟩:=p;clear hd hl
 go_enter Tryz.func62,Tryz.ntmps62
 go_wp2
 go_loopw [5,6] (fun I g wr=>∃ k:Nat,g=.int .i64 (k:Int)∧k≤l.length∧Hid (Row wr wr.heap.size I (nearK adj l k)∧Below w.heap.size w wr)) (fun _ g _=>l.length - (intOf g).toNat)
 case atStart=>exact ⟨0,rfl,Nat.zero_le _,j.out,Below.refl _ _⟩
 case round =>
  obtain ⟨k,rfl,hk,HS⟩:=hrel;by_cases hlt:k<l.length
  ·have O:(k:Int)<(l.length:Int):=by omega
   obtain ⟨x,d,H⟩:=Vj8 m.out hlt;have R:(x:Int)<(adj.length:Int):=q39_;obtain ⟨L,hA,hc⟩:=(j.out.up HS.out.2).readl k hlt;obtain ⟨M,S,G,N,s⟩:=(D.out.up HS.out.2).read x H;subst hA G;rw [d] at hc;have F:=hid d;have E:=hid s;have B:Hid ((nearK adj l k).length≤1048576):=hid (by
    have:=G0_ (Zf4 h.out m.out k hk).1;omega)
   have C:Hid ((adj.getD x []).length≤1048576):=hid (by have:=Vz8 h.out x;omega);clear d s
   go_wp2_with fail
   refine (F0_ _ _ (nearK adj l k) (adj.getD x []) _ HS.out.1 E.out B.out C.out).mono ?_;rintro e U ⟨T,rfl,r,o⟩;have y:=hid r;have z:=hid (Z0_ HS.out.2 (le_refl _) o);clear r o;go_wp2
   go_roundw
   case rel=>exact ⟨k+1,j40_,q39_,by unfold nearK;rw [F.out,Int.toNat_natCast];exact y.out,z.out⟩
   case measure=>simp [intOf];omega
  ·have hke:k=l.length:=by omega
   exact j24_
theorem Ye3 (v R:Value) (dst:List Int) (q:PtsP adj.length dst) (x:Nat) (hx:x<adj.length) (w:World) (O:Rows2 w w.heap.size v adj) (M:Row w w.heap.size R dst) :
  Calls Tryz.prog 83 #[v,.int .i64 (x:Int),R] w fun e w'=>∃ s:Int,e=.returned (.int .i64 s)∧K1_ adj dst (x:Int) s∧Below w.heap.size w w':=by
 have HR:=hid O;have X:=hid M;have B:=hid hd;have HT:=hid q;have x5:=hd.1;have r:PtsP adj.length [(x:Int)]:=⟨⟨j39_,fun y j=>by rw [List.mem_singleton] at j;rw [j];exact ⟨q39_,q39_⟩⟩,fun y j=>by rw [List.mem_singleton] at j;rw [j];omega⟩;have H:=hid r;have W:Hid (dst.length≤1048576):=hid (by have:=G0_ q;omega);have HM:Hid (∀ k,(0<(meetL (itL adj [(x:Int)] k) dst).length)↔Near adj dst k (x:Int)):=hid (fun k=>by
  have Q:IsSet (itL adj [(x:Int)] k):=(G1_ hd r k).1;have o:=W2_ hd (dst:=dst) k [(x:Int)] r;constructor
  ·intro h
   obtain ⟨z,hz⟩:=List.exists_mem_of_length_pos h;obtain ⟨C,D⟩:=(I1_ Q q.1 z).1 hz;obtain ⟨y,j,p⟩:=o.1 ⟨z,C,D⟩;rw [List.mem_singleton] at j;rw [← j];exact p
  ·intro h
   obtain ⟨z,C,D⟩:=o.2 ⟨_,j39_,h⟩;exact List.length_pos_of_mem ((I1_ Q q.1 z).2 ⟨C,D⟩))
 have T:Hid (∀ k,Near adj dst k (x:Int)→∃ m,m≤adj.length∧Near adj dst m (x:Int)):=hid (fun k N=>by
  obtain ⟨m,o,_,E⟩:=Zf5 hd (v:=(x:Int)) q39_ N;exact ⟨m,o,E⟩)
 have Y:Hid (Row (w.alloc (.cells #[.int .i64 (x:Int)] 3)) (w.alloc (.cells #[.int .i64 (x:Int)] 3)).heap.size (.slice (some ⟨w.heap.size,0,none⟩) 1 1) [(x:Int)]):=hid (Row.lit1 w (x:Int)).here;have U:Hid (Below w.heap.size w (w.alloc (.cells #[.int .i64 (x:Int)] 3))):=hid ((Below.refl _ w).alloc (le_refl _) _);obtain ⟨A,c,rfl,_⟩:=O;obtain ⟨At,ct,rfl,_⟩:=M;clear hd q r
 go_enter Tryz.func83,Tryz.ntmps83
 go_wp2
 go_loopw [7,8] (fun vo G wr=>∃ k:Nat,G=.int .i64 (k:Int)∧k≤adj.length+1∧Hid (Row wr wr.heap.size vo (itL adj [(x:Int)] k)∧Below w.heap.size w wr∧∀ m,m<k→¬ Near adj dst m (x:Int))) (fun _ G _=>adj.length+1 - (intOf G).toNat)
 case atStart=>exact ⟨0,rfl,Nat.zero_le _,Y.out,U.out,fun m d=>by omega⟩
 case round =>
  obtain ⟨k,rfl,N,g⟩:=hrel;by_cases x4:k≤adj.length
  ·have x2:(k:Int)≤(adj.length:Int):=by omega
   have Z:Hid ((itL adj [(x:Int)] k).length≤1048576):=hid (by
    have:=G0_ (G1_ B.out H.out k);omega)
   go_wp2_with fail
   refine (Zb0 _ _ (itL adj [(x:Int)] k) dst _ g.out.1 (X.out.up g.out.2.1) Z.out W.out).mono ?_;rintro e w5 ⟨v5,rfl,x3,F⟩;obtain ⟨A5,c5,rfl,-⟩:=x3;have x0:=hid (g.out.1.up F);have u:=hid (Z0_ g.out.2.1 (le_refl _) F);have d:=HM.out k;obtain ⟨L,J⟩:∃ L,(meetL (itL adj [(x:Int)] k) dst).length=L:=⟨_,rfl⟩;rw [J] at d ⊢;clear F J;by_cases I:0<L
   ·have p:=hid (d.1 I)
    have x1:(0:Int)<(L:Int):=q39_;clear d;go_wp2;go_ret;exact ⟨_,rfl,.inl ⟨k,rfl,p.out,g.out.2.2⟩,u.out⟩
   ·have p:=hid (fun h=>I (d.2 h))
    have x1:¬ (0:Int)<(L:Int):=q39_;clear d
    go_wp2_with fail
    refine (Zm3 B.out _ _ (itL adj [(x:Int)] k) (G1_ B.out H.out k) _ (HR.out.up u.out) x0.out).mono ?_;rintro e w6 ⟨v6,rfl,P,K⟩;have S:=hid P;have V:=hid (Z0_ u.out (le_refl _) K);clear P K;go_wp2
    go_roundw
    case rel =>
     refine ⟨k+1,j40_,q39_,S.out,V.out,fun m d=>?_⟩;by_cases e:m=k
     ·rw [e];exact p.out
     ·exact g.out.2.2 m q39_
    case measure=>simp [intOf];omega
  ·have x2:¬ (k:Int)≤(adj.length:Int):=by omega
   go_wp2;go_ret;exact ⟨_,rfl,.inr ⟨rfl,fun m d=>by
    obtain ⟨m',o,E⟩:=T.out m d;exact g.out.2.2 m' q39_ E⟩,g.out.2.1⟩
end
open Go Go.RowKit
theorem Vz9 {adj:List (List Int)} {dst S:List Int} {i:Nat} {b:Int} (c:PtsP adj.length S) (h:Q0_ adj dst S i b):b=-1∨(0≤b∧b<(adj.length:Int)):=by
 rcases h with ⟨e,_⟩ | ⟨_,h,_⟩
 ·exact .inl e
 ·exact .inr (c.2 b (List.mem_of_mem_take h))
section
variable {adj:List (List Int)} (hd:DigP adj)
include hd
theorem Zg1 (v R H:Value) (S dst:List Int) (B:PtsP adj.length S) (F:PtsP adj.length dst) (w:World) (E:Rows2 w w.heap.size v adj) (hl:Row w w.heap.size R S) (C:Row w w.heap.size H dst) :
  Calls Tryz.prog 59 #[v,R,H] w fun e w'=>∃ b:Int,e=.returned (.int .i64 b)∧Q0_ adj dst S S.length b∧Below w.heap.size w w':=by
 have HR:=hid E;have HF:=hid C;have z:=hid hl;have HD:=hid hd;have HT:=hid F;have p:=hid B;have x8:=hd.1;have x5:=G0_ B;have J:=hid (fun x (o:x<adj.length) W (K:Below w.heap.size w W)=>Ye3 hd v H dst F x o W (E.up K) (C.up K));obtain ⟨A,c,rfl,_⟩:=E;obtain ⟨At,ct,rfl,_⟩:=C;obtain ⟨Al,cl,rfl,_⟩:=hl;clear hd F B
 go_enter Tryz.func59,Tryz.ntmps59
 go_wp2
 go_loopw [7,8] (fun vb G wr=>∃ (i:Nat) (b:Int),vb=.int .i64 b∧G=.int .i64 (i:Int)∧i≤S.length∧Hid (Q0_ adj dst S i b∧Below w.heap.size w wr)) (fun _ G _=>S.length - (intOf G).toNat)
 case atStart=>exact ⟨0,-1,rfl,rfl,Nat.zero_le _,Zl7,Below.refl _ _⟩
 case round =>
  obtain ⟨i,b,rfl,rfl,Z,d⟩:=hrel;by_cases g:i<S.length
  ·have x7:(i:Int)<(S.length:Int):=by omega
   obtain ⟨x,o,x3⟩:=Vj8 p.out g;obtain ⟨ad,hA,hc⟩:=(z.out.up d.out.2).readl i g;subst hA;rw [o] at hc;have m:=hid o;clear o
   go_wp2_with fail
   refine (J.out x x3 _ d.out.2).mono ?_;rintro e w5 ⟨s,rfl,hs,M⟩;have k:=hid (Z0_ d.out.2 (le_refl _) M);have x4:=hid hs;have r:Hid (K1_ adj dst (S.getD i 0) s):=hid (by rw [m.out];exact hs);obtain ⟨T,j,P⟩:=(z.out.up k.out).readl i g;injection j with j;subst j;rw [m.out] at P;clear hs M hc;by_cases x1:s<0
   ·have U:decide (0≤s)=false:=decide_eq_false q39_
    have h:=hid (Zf6 g d.out.1 r.out x1);go_wp2
    go_roundw
    case rel=>exact ⟨i+1,b,rfl,j40_,q39_,h.out,k.out⟩
    case measure=>simp [intOf];omega
   ·have U:decide (0≤s)=true:=decide_eq_true q39_
    have D:0≤s:=q39_;rcases Vz9 p.out d.out.1 with hb | ⟨L,x6⟩
    ·have h:=hid (Zf7 g d.out.1 hb (fun y hy=>(p.out.2 y (List.mem_of_mem_take hy)).1) r.out D)
     have X:b<0:=q39_;have V:decide (b<0)=true:=decide_eq_true X;clear hb;go_wp2
     go_roundw
     case rel=>exact ⟨i+1,(x:Int),rfl,j40_,q39_,by rw [← m.out];exact h.out,k.out⟩
     case measure=>simp [intOf];omega
    ·obtain ⟨q,rfl⟩:∃ q:Nat,b=(q:Int):=⟨b.toNat,q39_⟩
     have x2:q<adj.length:=q39_;have V:decide ((q:Int)<0)=false:=decide_eq_false q39_;have d3:¬ (q:Int)<0:=q39_
     go_wp2_with fail
     refine (J.out q x2 _ k.out).mono ?_;rintro e w6 ⟨sb,rfl,Q,N⟩;have u:=hid (Z0_ k.out (le_refl _) N);have I:=hid Q;obtain ⟨T,j,Y⟩:=(z.out.up u.out).readl i g;injection j with j;subst j;rw [m.out] at Y;clear Q N P;by_cases O:s<sb
     ·have h:=hid (Zv5 g d.out.1 L I.out r.out D O)
      go_wp2
      go_roundw
      case rel=>exact ⟨i+1,(x:Int),rfl,j40_,q39_,by rw [← m.out];exact h.out,u.out⟩
      case measure=>simp [intOf];omega
     ·have h:=hid (Zl8 p.out.1.1 g d.out.1 L I.out r.out D O)
      go_wp2
      go_roundw
      case rel=>exact ⟨i+1,(q:Int),rfl,j40_,q39_,h.out,u.out⟩
      case measure=>simp [intOf];omega
  ·have x0:i=S.length:=by omega
   clear g Z;subst x0;go_wp2;go_ret;exact ⟨_,rfl,d.out.1,d.out.2⟩
end
theorem Xz2 (v K:Value) (adj:List (List Int)) (g:List Int) (j:DigP adj) (m:PtsP adj.length g) (w:World) (I:Rows2 w w.heap.size v adj) (F:Row w w.heap.size K g) :
  Calls Tryz.prog 27 #[v,K] w (Gives w (itL adj g adj.length)):=by
 have z:=hid I;have y:=hid F;obtain ⟨A,c,rfl,_⟩:=I;obtain ⟨T,cl,rfl,_⟩:=F;have V:=j.1;have W:=G0_ m;have h:=hid j;have r:=hid m;clear j m
 go_enter Tryz.func27,Tryz.ntmps27
 go_wp2_with fail
 refine (Ym9 _ adj true (Za1 h.out) _ z.out).mono ?_;rintro e Y ⟨rfl,B⟩;have s:=hid B;clear B
 go_wp2_with fail
 refine (I0_ adj.length _ g true (Zs2 r.out) _ (y.out.up s.out)).mono ?_;rintro e d ⟨rfl,C⟩;have u:=hid (Z0_ s.out (le_refl _) C);have o:(d.alloc (.cells #[] 3)).ownsRow d.heap.size 3 1 (.slice (some ⟨d.heap.size,0,none⟩) 0 0) 0 [] :=
  World.ownsRow_made d #[] 0 (le_refl _) z40_ rfl
 have x:Hid (Below d.heap.size d (d.alloc (.cells #[] 3))):=hid ((Below.refl _ d).alloc (le_refl _) _);have O:=hid ((y.out.up u.out).up x.out);clear C
 go_wp2_with (at_builtin;refine Z4_ rfl _ _ rfl d.heap.size _ _ _ [] g rfl rfl o O.out j39_ q39_ j39_ ?_)
 intro R q H G;have D:Below d.heap.size d q:=x.out.grown G j39_ (fun i Q=>(World.ownsRow.lt o i Q).1);have P:Hid (Row q q.heap.size R g):=hid (Row.of_own H j39_);have M:=hid (Z0_ u.out (le_refl _) D);clear H G D o;go_wp2
 go_loopw [5,6] (fun S p wr=>∃ k:Nat,p=.int .i64 (k:Int)∧k≤adj.length∧Hid (Row wr wr.heap.size S (itL adj g k)∧Below w.heap.size w wr)) (fun _ p _=>adj.length - (intOf p).toNat)
 case atStart=>exact ⟨0,rfl,Nat.zero_le _,P.out,M.out⟩
 case round =>
  obtain ⟨k,rfl,hk,HS⟩:=hrel;by_cases hlt:k<adj.length
  ·have U:(k:Int)<(adj.length:Int):=by omega
   go_wp2_with fail
   refine (Zm3 h.out _ _ (itL adj g k) (G1_ h.out r.out k) _ (z.out.up HS.out.2) HS.out.1).mono ?_;rintro e Z ⟨X,rfl,J,E⟩;have L:=hid J;have N:=hid (Z0_ HS.out.2 (le_refl _) E);clear J E;go_wp2
   go_roundw
   case rel=>exact ⟨k+1,j40_,q39_,L.out,N.out⟩
   case measure=>simp [intOf];omega
  ·have hke:k=adj.length:=by omega
   exact j24_
structure Rest (adj:List (List Int)) (dst l out:List Int) (x:Int):Prop where
 ex:∃ S m rest,Greedy adj dst S m (x :: rest)∧l=out ++ rest
theorem Rest.end_ {adj:List (List Int)} {dst l out:List Int} {x:Int} (h:Rest adj dst l out x) (d:x∈dst):out=l:=by
 obtain ⟨S,m,rest,c,e⟩:=h.ex;cases c with
 | stop=>rw [e,List.append_nil]
 | step _ _ n _ h1 _ h3 _ _=>exact absurd (F3_ (Nat.zero_le n) d) (h3 x h1)
theorem Rest.next {adj:List (List Int)} {dst l out:List Int} {x:Int} (h:Rest adj dst l out x) (d:x∉dst) {b:Int} (hb:Q0_ adj dst (adj.getD x.toNat []) (adj.getD x.toNat []).length b):Rest adj dst l (out ++ [b]) b∧out.length+1≤l.length∧b∈adj.getD x.toNat []:=by
 obtain ⟨S,m,rest,c,e⟩:=h.ex;cases c with
 | stop _ _ _ h2 _=>exact absurd h2 d
 | step _ _ n rest h1 h2 h3 h4 c =>
  match rest,c with
  | [],c=>exact absurd c.length j39_
  | y :: rest,c =>
   have f:=Zv6 c hb;subst f;exact ⟨⟨_,_,rest,c,by rw [e,List.append_assoc];rfl⟩,by rw [e,List.length_append,List.length_cons];omega,c.mem⟩
def Xh6 (adj:List (List Int)) (src dst l:List Int) (b:Bool):Prop:=(b=true∧∃ n,Greedy adj dst src n l)∨(b=false∧l=[]∧∀ y∈src,∀ k,¬ Near adj dst k y)
theorem Zm4 {adj:List (List Int)} {d dst l:List Int} {b:Bool} (hd:DigP adj) (hs:PtsP adj.length d) (h:Xh6 adj d dst l b):l.length≤adj.length+1:=by
 rcases h with ⟨_,n,c⟩ | ⟨_,rfl,_⟩
 ·rw [c.length]
  have e:=c.length;cases l with
  | nil=>simp at e
  | cons x l =>
   have f:=hs.2 x c.mem;obtain ⟨m,g,j,h3⟩:=Zf5 hd f (c.near 0 j39_);have:=Nat.lt_or_ge m n;rcases this with h | h
   ·exact absurd h3 (c.none x c.mem m h)
   ·omega
 ·simp
theorem Vy0 {adj:List (List Int)} {dst S:List Int} {b:Int} (h:∀ y∈S,∀ k,¬ Near adj dst k y) (hb:Q0_ adj dst S S.length b):b=-1:=by
 rcases hb with ⟨e,_⟩ | ⟨k,c,d,_⟩
 ·exact e
 ·exact absurd d (h b (List.mem_of_mem_take c) k)
theorem Xz3 (adj:List (List Int)) (j dst l:List Int) (b:Bool) (G:DigP adj) (H:PtsP adj.length j) (h3:PtsP adj.length dst) (Q:Xh6 adj j dst l b) (v vf vt:Value) (w:World) (hr:Rows2 w w.heap.size v adj) (hf:Row w w.heap.size vf j) (ht:Row w w.heap.size vt dst) :
  Calls Tryz.prog 25 #[v,vf,vt] w fun e w'=>∃ u:Value,e=.returned (.tuple #[u,.bool b])∧Row w' w'.heap.size u l∧Below w.heap.size w w':=by
 have F:=hid hr;have Z:=hid hf;have C:=hid ht;have xj:=hid (Zm4 G H Q);have y4:=G.1;have y7:=G0_ H;have y8:=G0_ h3;have y2:=xj.out;have r:=hid G;have K:=hid H;have s:=hid h3;have M:=hid Q;obtain ⟨A,c,rfl,_⟩:=hr;obtain ⟨Al,cl,rfl,_⟩:=hf;obtain ⟨At,ct,rfl,_⟩:=ht;clear G H h3 Q
 go_enter Tryz.func25,Tryz.ntmps25
 go_wp2_with fail
 refine (Ym9 _ adj true (Za1 r.out) _ F.out).mono ?_;rintro e w1 ⟨rfl,x2⟩;have U:=hid x2;clear x2
 go_wp2_with fail
 refine (I0_ adj.length _ j true (Zs2 K.out) _ (Z.out.up U.out)).mono ?_;rintro e w2 ⟨rfl,x3⟩;have V:=hid (Z0_ U.out (le_refl _) x3);clear x3
 go_wp2_with fail
 refine (I0_ adj.length _ dst true (Zs2 s.out) _ (C.out.up V.out)).mono ?_;rintro e w3 ⟨rfl,x4⟩;have D:=hid (Z0_ V.out (le_refl _) x4);clear x4
 go_wp2_with fail
 refine (Zg1 r.out _ _ _ j dst K.out s.out _ (F.out.up D.out) (Z.out.up D.out) (C.out.up D.out)).mono ?_;rintro e d ⟨o,rfl,xg,x5⟩;have W:=hid (Z0_ D.out (le_refl _) x5);have O:=hid xg;clear x5 xg;cases b with
 | false =>
  obtain ⟨hl,xt⟩:l=[]∧∀ y∈j,∀ k,¬ Near adj dst k y:=by
   rcases M.out with ⟨e,_⟩ | ⟨_,e,h⟩
   ·cases e
   ·exact ⟨e,h⟩
  subst hl;have hx:o=-1:=Vy0 xt O.out;have d1:o<0:=q39_;clear hx;go_wp2
  go_ret2
  exact ⟨_,rfl,Row.nil_ _ _,W.out⟩
 | true =>
  obtain ⟨n,p⟩:∃ n,Greedy adj dst j n l:=by
   rcases M.out with ⟨_,h⟩ | ⟨e,_⟩
   ·exact h
   ·cases e
  obtain ⟨y,rest,I⟩:∃ y rest,l=y :: rest:=by
   cases l with
   | nil=>exact absurd p.length j39_
   | cons y rest=>exact ⟨y,rest,rfl⟩
  rw [I] at p;have hy:=Zv6 p O.out;subst hy;have xy:=K.out.2 o p.mem;have xp:Hid (Rest adj dst l [o] o):=hid ⟨j,n,rest,p,I⟩;obtain ⟨x,rfl⟩:∃ x:Nat,o=(x:Int):=⟨o.toNat,q39_⟩;have S:x<adj.length:=q39_;have d1:¬ (x:Int)<0:=q39_;have xb:(d.alloc (.cells #[.int .i64 (x:Int)] 3)).ownsRow d.heap.size 3 1 (.slice (some ⟨d.heap.size,0,none⟩) 1 1) [(x:Int)].length (ints [(x:Int)]) :=
   ⟨rfl,.inr ⟨d.heap.size,1,_,rfl,le_refl _,heap_alloc_new d _,le_refl _,x40_,rfl,rfl⟩⟩
  have xl:=hid xb;have xh:Hid (Below d.heap.size d (d.alloc (.cells #[.int .i64 (x:Int)] 3))):=hid ((Below.refl _ d).alloc (le_refl _) _);have xr:1≤l.length:=by rw [I];simp
  clear p xy xb I O M;go_wp2
  go_loopw [8,9] (fun vx J wr=>∃ (x:Nat) (out:List Int),vx=.int .i64 (x:Int)∧x<adj.length∧out.length≤l.length∧lenOf J=out.length∧Hid (Rest adj dst l out (x:Int)∧wr.ownsRow d.heap.size 3 1 J out.length (ints out)∧Below d.heap.size d wr)) (fun _ J _=>l.length - lenOf J)
  case atStart=>exact ⟨x,[(x:Int)],rfl,S,xr,rfl,xp.out,xl.out,xh.out⟩
  case round =>
   obtain ⟨x,out,rfl,S,y5,y3,m⟩:=hrel;have E:=hid (Z0_ W.out (le_refl _) (m.out.2.2.mono (le_refl _)));have xx:=m.out.2.2.size;rcases hh:hasB dst (x:Int) with _ | _
   ·have L:=hid hh
    have xa:(x:Int)∉dst:=fun h=>by
     rw [(B7_ s.out.1 _).2 h] at hh;cases hh
    have xk:=hid xa;have y9:(x:Int)<(adj.length:Int):=q39_;clear hh xa
    go_wp2_with fail
    refine (Yn0 _ dst (x:Int) _ (C.out.up E.out) q39_).mono ?_;rintro e w6 ⟨rfl,g⟩;rw [L.out];have B:=hid (Z0_ E.out (le_refl _) g);have X:=hid (m.out.2.2.trans (g.mono xx));have N:=hid (World.ownsRow.kept m.out.2.1 (Z6_ g none) y44_);obtain ⟨y0,ua,xq,xs,xf⟩:=(F.out.up B.out).read x S;subst xq;have xo:=hid xf;clear g xf
    go_wp2_with fail
    refine (Zg1 r.out _ _ _ (adj.getD x []) dst (r.out.2 x) s.out _ (F.out.up B.out) xo.out (C.out.up B.out)).mono ?_;rintro e w7 ⟨z,rfl,hz,P⟩;have x9:=m.out.1.next xk.out (b:=z) (by rw [Int.toNat_natCast];exact hz);rw [Int.toNat_natCast] at x9;obtain ⟨xd,y6,xe⟩:=x9;have xz:=(r.out.2 x).2 z xe;obtain ⟨q,rfl⟩:∃ q:Nat,z=(q:Int):=⟨z.toNat,q39_⟩;have xu:q<adj.length:=q39_;have xv:d.heap.size≤w6.heap.size:=X.out.size;have Y:=hid (X.out.trans (P.mono xv));have x1:=hid (World.ownsRow.kept N.out (Z6_ P none) y44_);have xn:=hid xd;have xw:d.heap.size≤w7.heap.size:=Y.out.size;clear hz P xd xe xz xs
    go_wp2_with (at_builtin;refine Z4_ rfl _ _ rfl d.heap.size _ _ _ out [(q:Int)] rfl rfl (World.ownsRow.alloc x1.out _) (Row.lit1 _ (q:Int)) q39_ j39_ k39_ ?_)
    intro T w8 R x7;have xc:w8.ownsRow d.heap.size 3 1 T (out ++ [(q:Int)]).length (ints (out ++ [(q:Int)])):=by rw [List.length_append];exact R
    have x6:Below d.heap.size d w8:=(Y.out.alloc xw _).grown x7 k39_ (fun i hi=>(World.ownsRow.lt x1.out i hi).1);have y1:lenOf T=out.length+1:=by
     rcases R.2 with ⟨_,h0⟩ | ⟨_,_,_,hv,_⟩
     ·simp at h0
     ·rw [hv];simp [lenOf]
    have xm:=hid xc;have xi:=hid x6;clear R xc x7 x6;go_wp2
    go_roundw
    case rel=>exact ⟨q,out ++ [(q:Int)],rfl,xu,by rw [List.length_append];simp;omega,by rw [List.length_append];simp;omega,xn.out,xm.out,xi.out⟩
    case measure =>
     change l.length - lenOf T<l.length - lenOf _;omega
   ·have L:=hid hh
    have x8:(x:Int)∈dst:=(B7_ s.out.1 _).1 hh;have HE:=hid (m.out.1.end_ x8);clear hh x8
    go_wp2_with fail
    refine (Yn0 _ dst (x:Int) _ (C.out.up E.out) q39_).mono ?_;rintro e w6 ⟨rfl,g⟩;rw [L.out];have B:=hid (Z0_ E.out (le_refl _) g);have N:=hid (World.ownsRow.kept m.out.2.1 (Z6_ g none) y44_);clear g;go_wp2
    go_ret2
    exact ⟨_,rfl,by rw [← HE.out];exact Row.of_own N.out rfl,B.out⟩
end Wp
end Go.Proofs.YteiejkhdonmcdaaGreatDoor
