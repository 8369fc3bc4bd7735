/- What the laws of kinds say, plain; and which elements of the inner one a matroid's are. What is restricted or contracted, and which elements are told of it: plain. -/
import Derived.Test.YteiejkhdonmcdaaGreatDoorZQ
import Derived.Test.YteiejkhdonmcdaaGreatDoorX0A
namespace Go.Proofs.YteiejkhdonmcdaaGreatDoor.Wp
open Go Go.RowKit
def Vv7 (m:Mat):Mat:=.mk 8 m.n 0 0 [] [m]
def sumOf (n:Int) (l:List Mat):Mat:=.mk 9 n 0 0 [] l
def Vt8 (n:Int) (r:List Int) (m:Mat):Mat:=.mk 5 n 0 0 [r] [m]
def Vt9 (n:Int) (r:List Int) (m:Mat):Mat:=.mk 6 n 0 0 [r] [m]
theorem Xa0 {k:Nat} {m:Mat} (h:ok (k+1) m=true):bad m=0:=by
 rw [ok,Bool.and_eq_true] at h;exact of_decide_eq_true h.1
theorem Xp2 {k:Nat} {m x:Mat} (h:ok (k+1) m=true) (c:x∈m.i):ok k x=true:=by
 rw [ok,Bool.and_eq_true] at h;exact List.all_eq_true.1 h.2 x c
theorem Y8_ {m:Mat} (h:chk m=0):bad m=0:=Xa0 (chk_ok.1 h).2
theorem chk3 {m:Mat}:chk m=0∧dp 4 m≤3↔dp 3 m≤3∧ok 3 m=true:=by
 have e:dp 3 m=min 4 (dp 4 m):=Ya1 3 m;constructor
 ·rintro ⟨h,h3⟩
  have c:dp 3 m≤3:=q39_;exact ⟨c,by rw [← Ya2 c];exact (chk_ok.1 h).2⟩
 ·rintro ⟨h,d⟩
  exact ⟨chk_ok.2 ⟨q39_,by rw [Ya2 h];exact d⟩,q39_⟩
theorem G9_ {x:Int} (c:-1000000≤x) (d:x≤1000000):IntKind.i64.wrap x=x:=q40_
theorem Vd8 {x:Int} (c:-9223372036854775808≤x) (d:x≤9223372036854775807):IntKind.i64.wrap x=x:=q40_
theorem Zz9 {m:Mat} (h:m.t=7∨m.t=8∨m.t=9):fitsB m=decide (m.n=tog m.i):=x18_
theorem within {m x:Mat} (h:chk m=0) (hx:x∈m.i):chk x=0∧dp 4 x<dp 4 m:=by
 obtain ⟨e,c⟩:=chk_ok.1 h;have hb:=Xa0 c;have hn:nest m.t:=x30_;have h3:dp 3 x+1≤dp 4 m:=Zj4 (k:=3) hn hx;obtain ⟨d,f⟩:=chk3.2 ⟨q39_,Xp2 c hx⟩;have g:dp 3 x=min 4 (dp 4 x):=Ya1 3 x;exact ⟨d,q39_⟩
theorem chk_n {m:Mat} (h:chk m=0):0≤m.n∧m.n≤64:=by
 obtain ⟨_,c,_⟩:=V1_ (Y8_ h);exact ⟨c.1,c.2.1⟩
theorem Vd9 (m:Mat) (h:chk m=0):tog [m]=m.n:=by
 obtain ⟨c,d⟩:=chk_n h;show IntKind.i64.wrap (0+m.n)=_;rw [G9_ q39_ q39_];omega
theorem Xp3 (l:List Mat) (x:Mat):tog (l ++ [x])=IntKind.i64.wrap (tog l+x.n):=by
 unfold tog;rw [List.foldl_append];rfl
theorem Vv8 {l:List Mat} (h:∀ x∈l,0≤x.n∧x.n≤64) (hl:l.length≤10):0≤tog l∧tog l≤64 * l.length:=by
 have d:∀ (l:List Mat) (s:Int),(∀ x∈l,0≤x.n∧x.n≤64)→0≤s→s+64 * l.length≤1000000→s≤l.foldl (fun n x=>IntKind.i64.wrap (n+x.n)) s∧l.foldl (fun n x=>IntKind.i64.wrap (n+x.n)) s≤s+64 * l.length:=by
  intro l
  induction l with
  | nil=>intro s _ _ _;simp
  | cons x r ih =>
   intro s c e hs;have f:=c x j39_;rw [List.length_cons] at hs;rw [List.foldl_cons,G9_ q39_ q39_];have:=ih (s+x.n) (fun y hy=>c y q44_) q39_ q39_;rw [List.length_cons];omega
 have:=d l 0 h q39_ q39_;unfold tog;omega
end Go.Proofs.YteiejkhdonmcdaaGreatDoor.Wp
namespace Go.Proofs.YteiejkhdonmcdaaGreatDoor.Wp
open Go Go.RowKit
def stayL (m:Mat):List Int:=if m.t=6 then Z5_ (allL (inn m).n) (row m 0) else row m 0
def imgB (m:Mat) (s:List Int):Bool:=decide (m.t=5∨m.t=6) && decide (chk m=0) && subB s (allL m.n)
def imgM (m:Mat) (s:List Int):List Int:=s.map fun x=>(stayL m).getD x.toNat 0
def imgL (m:Mat) (s:List Int):List Int:=if imgB m s then imgM m s else []
theorem Xa1 {a b:List Int} (ha:IsSet a) (hb:IsSet b) (h:∀ x∈a,x∈b):b.length=(Z5_ b a).length+a.length:=by
 refine Za6 (J7_ b a) ha hb (fun x c=>((Y6_ hb ha x).1 c).2) fun x=>?_;rw [Y6_ hb ha x];constructor
 ·intro c
  by_cases d:x∈a
  ·exact .inr d
  ·exact .inl ⟨c,d⟩
 ·rintro (c | c)
  ·exact c.1
  ·exact h x c
theorem subB_iff {a b:List Int}:subB a b=true↔IsSet a∧IsSet b∧∀ x∈a,x∈b:=by
 constructor
 ·intro h
  have c:=h;unfold subB at c;rw [Bool.and_eq_true,Bool.and_eq_true] at c;have ha:=mayB_iff.1 c.1.1;have hb:=mayB_iff.1 c.1.2;exact ⟨ha,hb,(Zn2 ha hb).1 h⟩
 ·rintro ⟨ha,hb,h⟩
  exact (Zn2 ha hb).2 h
theorem Yz5 {n:Int} (c:0≤n) (d:n≤64):((allL n).length:Int)=n:=by
 by_cases h:1≤n
 ·exact (Yn7 n).2 h q39_
 ·have:n=0:=by omega
  subst this;rfl
theorem E2_ {m:Mat} (h:chk m=0) (c:m.t=5∨m.t=6):m.l.length=1∧m.i.length=1:=by
 have h3:=takes_iff.1 (V1_ (Y8_ h)).2.2.1;rcases c with e | e
 ·exact y15_
 ·exact y15_
theorem Xa2 {m:Mat} (h:0<m.i.length):inn m∈m.i:=by
 unfold inn;rw [show m.i.getD 0 default=m.i[0] by simp [List.getD,h]];exact List.getElem_mem h
theorem U3_ {m:Mat} (h:chk m=0) (g:m.t=5∨m.t=6):((stayL m).length:Int)=m.n:=by
 have c:=(V1_ (Y8_ h)).2.2.2;have hl:=E2_ h g;have f:=chk_n (within h (Xa2 (m:=m) q39_)).1;have s:=chk_n h;rcases g with e | e
 ·have d:fitsB m=(partB m && decide (m.n=(row m 0).length)):=j21_
  rw [d,Bool.and_eq_true] at c;unfold stayL;rw [if_neg q39_];exact (of_decide_eq_true c.2).symm
 ·have d:fitsB m=(partB m && decide (IntKind.i64.wrap (m.n+(row m 0).length)=(inn m).n)):=q19_
  rw [d,Bool.and_eq_true] at c;obtain ⟨j,k,o⟩:=subB_iff.1 c.1;have r:=Xa1 j k o;have q:=Yz5 f.1 f.2;have p:=of_decide_eq_true c.2;unfold stayL;rw [if_pos e];rw [Vd8 q39_ q39_] at p;omega
theorem Yk3 {m:Mat} {s:List Int} (h:chk m=0) (hs:subB s (allL m.n)=true):∀ k,k<s.length→0≤s.getD k 0∧s.getD k 0<m.n:=by
 intro k c;have e:=chk_n h;obtain ⟨_,_,h3⟩:=subB_iff.1 hs;have d:=h3 (s.getD k 0) (by rw [show s.getD k 0=s[k] by simp [List.getD,c]];exact List.getElem_mem c);exact (L1_ e.1 q39_ _).1 d
theorem Zy0 (m:Mat) (s:List Int):(imgM m s).length=s.length:=by simp [imgM]
theorem Yk4 (m:Mat) (s:List Int) (k:Nat) (c:k<s.length):(imgM m s).getD k 0=(stayL m).getD (s.getD k 0).toNat 0:=by
 simp [imgM,List.getD,c]
def fillM (f:List Int) (n k:Nat):Array Value:=(ints (f.take k ++ List.replicate (n - k) 0)).toArray
theorem Zk0 {f:List Int} {n k:Nat} (c:f.length=n) (h:k≤n):(fillM f n k).size=n:=by
 simp [fillM,Q8_];omega
theorem Yz6 {f:List Int} {n k:Nat} (c:f.length=n) (h:k<n):(fillM f n k).setIfInBounds k (.int .i64 (f.getD k 0))=fillM f n (k+1):=by
 unfold fillM;rw [List.setIfInBounds_toArray];congr 1;have d:f.take (k+1)=f.take k ++ [f.getD k 0]:=by
  rw [List.take_succ_eq_append_getElem q39_];simp [List.getD,c,h]
 rw [d,J4_,J4_,J4_,List.append_assoc];have e:List.replicate (n - k) (0:Int)=0 :: List.replicate (n - (k+1)) 0:=by
  rw [show n - k=(n - (k+1))+1 from by omega,List.replicate_succ]
 have hl:(ints (f.take k)).length=k:=by rw [Q8_,List.length_take];omega
 rw [e,List.set_append_right _ _ q39_,hl,Nat.sub_self];rfl
theorem Zk1 (f:List Int) (n:Nat):fillM f n 0=filled n 0:=by simp [fillM,filled,upTo]
theorem Xa3 {f:List Int} {n:Nat} (c:f.length=n):fillM f n n=(ints f).toArray:=by
 unfold fillM;rw [Nat.sub_self,List.replicate_zero,List.append_nil,← c,List.take_length]
theorem Yz7 {w:World} {g n:Nat} {f:List Int} (c:f.length=n) (h:Blk w g 3 (fillM f n n)) (d:n≤maxLen):Row w w.heap.size (.slice (some ⟨g,0,none⟩) n n) f:=by
 rw [Xa3 c] at h;refine ⟨_,n,by rw [c],⟨q39_,d,fun e=>by cases e⟩,fun k hk=>⟨_,rfl,h.lt,?_⟩⟩;exact k18_
end Go.Proofs.YteiejkhdonmcdaaGreatDoor.Wp
namespace Go.Proofs.YteiejkhdonmcdaaGreatDoor.Wp
open Go Go.RowKit
def restK (l:List Int) (k:Nat):List Int:=(upTo k).filter fun x=>l.contains x==false
theorem Zp2 {n:Int} {l:List Int} (h:okA n l=true):IsSet l∧∀ x∈l,0≤x∧x<n:=by
 unfold okA at h;rw [Bool.and_eq_true] at h;have hs:=mayB_iff.1 h.1;refine ⟨hs,fun x d=>⟨(hs.2 x d).1,?_⟩⟩;obtain ⟨i,f,rfl⟩:=List.mem_iff_getElem.1 d;rw [Bool.or_eq_true,decide_eq_true_iff,decide_eq_true_iff] at h;rcases h.2 with c | c
 ·omega
 ·have hl:l.length - 1<l.length:=by omega
  rw [show l.getD (l.length - 1) 0=l[l.length - 1] by simp [List.getD,hl]] at c;by_cases e:i=l.length - 1
  ·subst e
   exact c
  ·have:=List.pairwise_iff_getElem.1 hs.1 i (l.length - 1) f hl q39_
   omega
theorem Yc1 {n:Int} {l:List Int} (c:0≤n) (e:n≤64) (hs:IsSet l) (h:∀ x∈l,0≤x∧x<n):subB l (allL n)=true :=
 subB_iff.2 ⟨hs,I9_ n,fun x d=>(L1_ c q39_ x).2 (h x d)⟩
theorem Ve0 {n:Int} {l:List Int} (d:0≤n) (c:n≤64) (hs:IsSet l) (h:∀ x∈l,0≤x∧x<n):n=(Z5_ (allL n) l).length+l.length:=by
 have e:=Xa1 hs (I9_ n) (subB_iff.1 (Yc1 d c hs h)).2.2;have f:=Yz5 d c;omega
section
variable {m:Mat} {l:List Int} (hc:chk m=0) (h3:dp 4 m≤3) (hs:IsSet l) (hl:∀ x∈l,0≤x∧x<m.n)
include hc h3 hs hl
end
end Go.Proofs.YteiejkhdonmcdaaGreatDoor.Wp
