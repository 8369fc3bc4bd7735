/- bases: so many times a matroid as union tells them, walked (written by gen_ubas.py). -/
import Derived.Test.YtigobiacbficaaaGreatDoorURepM
import Derived.Test.YtigobiacbficaaaGreatDoorUMaxW
import Derived.Test.YtigobiacbficaaaGreatDoorURMay
import Derived.Test.YtigobiacbficaaaGreatDoorVI10C
import Derived.Test.YtigobiacbficaaaGreatDoorZA
import Derived.Test.YtigobiacbficaaaGreatDoorZT
import Derived.Test.YtigobiacbficaaaGreatDoorX0A
import Derived.Test.YtigobiacbficaaaGreatDoorX0B
set_option maxHeartbeats 16000000
set_option maxRecDepth 100000
open Go.Lib (hid)
open Nat (le_refl)
namespace Go.Proofs.YtigobiacbficaaaGreatDoor.Wp
private theorem y10_ {P:Prop} (h:P:=by
 go_enter Tryz.func15,Tryz.ntmps15
 go_wp2
 refine bodyPost_ret (v:=.tuple #[.slice none 0 0,.slice none 0 0,.int .i64 1]) (by simp [results,Tryz.results15,go_sem]) rfl ?_
 exact ⟨rfl,Hb0.out⟩):P:=h
private theorem x44_ {P:Prop} (h:P:=by simp [results,Tryz.results8,go_sem]):P:=h
private theorem z44_ {P:Prop} (h:P:=by simp [results,Tryz.results6,go_sem]):P:=h
open Go Go.RowKit
theorem Yk7 (E:Nat→Addr) (m:Mat) (v:Value) (w:World) (B:MatV w w.heap.size v m) (hs:Sml m) (G:Env E w):Calls Tryz.prog 17 #[v] w (Tells w (rankT m (allL m.n))):=by
 have K:=hid hs;obtain ⟨o,k,P,O,N⟩:=B.open;have j:=hid (Z1_ w m o k);have y:=(Below.refl (boxed w m o k).heap.size (boxed w m o k)).drew;have D:=hid ((B.up j.out).up y);have C:=hid ((G.up j.out).up y);have d:=hid (Z4_ w m o k);obtain ⟨s,cl,rfl,_⟩:=O;obtain ⟨q,u,rfl,_⟩:=N;subst P;obtain ⟨X,x⟩:∃ X,boxed w m (.slice s m.l.length cl) (.slice q m.i.length u)=X:=⟨_,rfl⟩;rw [x] at j D C d;have F:=hid x;have L:Hid (∀ W,Below X.drew.heap.size X.drew W→W.cell? ⟨w.heap.size,0,none⟩=some (.int .i64 m.t)∧W.cell? ⟨w.heap.size,1,none⟩=some (.int .i64 m.n)∧W.cell? ⟨w.heap.size,2,none⟩=some (.int .i64 m.a)∧W.cell? ⟨w.heap.size,3,none⟩=some (.int .i64 m.b)∧W.cell? ⟨w.heap.size,4,none⟩=some (.slice s m.l.length cl)∧W.cell? ⟨w.heap.size,5,none⟩=some (.slice q m.i.length u)):=hid fun W h=>⟨(d.out.drew.below h d.out.lt).cell 0,(d.out.drew.below h d.out.lt).cell 1,(d.out.drew.below h d.out.lt).cell 2,(d.out.drew.below h d.out.lt).cell 3,(d.out.drew.below h d.out.lt).cell 4,(d.out.drew.below h d.out.lt).cell 5⟩;have g:Hid (Below X.drew.heap.size X.drew X.drew):=hid (Below.refl _ _);obtain ⟨r,z⟩:∃ r,rankT m (allL m.n)=r:=⟨_,rfl⟩;have M:=D4_ m.n;have J:Hid (∀ (v p:Value) (W:World),MatV W W.heap.size v m→Row W W.heap.size p (allL m.n)→Env E W→Calls Tryz.prog 31 #[v,p] W (Tells W r)):=hid fun v p W a b c=>by rw [← z];exact Yb9 E m v p _ W a K.out b y40_ c
 rw [z];unfold boxed at F;clear B hs G x z y M d
 go_enter Tryz.func17,Tryz.ntmps17
 go_wp2;rw [F.out]
 go_region_held3 (fun W=>W.cell? ⟨w.heap.size,0,none⟩=some (.int .i64 m.t)∧W.cell? ⟨w.heap.size,1,none⟩=some (.int .i64 m.n)∧W.cell? ⟨w.heap.size,2,none⟩=some (.int .i64 m.a)∧W.cell? ⟨w.heap.size,3,none⟩=some (.int .i64 m.b)∧W.cell? ⟨w.heap.size,4,none⟩=some (.slice s m.l.length cl)∧W.cell? ⟨w.heap.size,5,none⟩=some (.slice q m.i.length u))
  (exact L.out _ g.out)
  (first
  | (go_at_call 32;refine (D0_ m.n _).mono ?_;rintro e R ⟨Q,rfl,H,hb⟩;replace g:=hid (Z0_ g.out (le_refl _) hb);have I:=hid H;clear H hb)
  | (go_at_call 31;refine (J.out _ _ _ (D.out.up g.out) I.out (C.out.up g.out)).mono ?_;rintro e S ⟨rfl,hb⟩;replace g:=hid (Z0_ g.out (le_refl _) hb);clear hb))
 all_goals
  go_simp;go_wp2;go_ret;exact ⟨rfl,Z0_ j.out.drew (le_refl _) g.out⟩
theorem Zh4 {m:Mat} {k:Nat} (d:1≤k) (e:k≤8):sevB (List.replicate k m)=(chk m==0):=by
 unfold sevB;rw [List.length_replicate,decide_eq_true d,decide_eq_true e,Bool.true_and,Bool.true_and];have c:(List.replicate k m).getD 0 default=m:=by rw [List.getD_eq_getElem?_getD,List.getElem?_replicate,if_pos y40_];rfl
 have f:(List.replicate k m).any (oddM (List.replicate k m))=!(chk m==0):=by
  obtain ⟨j,rfl⟩:∃ j,k=j+1:=⟨k - 1,y40_⟩;cases hb:(chk m==0) with
  | true =>
   rw [List.any_eq_false.2 fun x g=>?_]
   ·rfl
   ·rw [List.eq_of_mem_replicate g]
    unfold oddM;rw [c,hb];simp
  | false =>
   rw [List.any_eq_true.2 ⟨m,k40_,?_⟩]
   ·rfl
   ·unfold oddM
    rw [hb];simp
 rw [f,Bool.not_not]
theorem Yt9 {m:Mat} {k:Nat} (c:1≤k):(List.replicate k m).getD 0 default=m:=by rw [List.getD_eq_getElem?_getD,List.getElem?_replicate,if_pos y40_];rfl
theorem J1_ {m:Mat} {k:Nat} (c:1≤k) (d:k≤8) (hc:chk m=0):Several (List.replicate k m) (nN m):=by
 have h:=(sev_iff.1 (show sevB (List.replicate k m)=true by rw [Zh4 c d,hc];rfl)).1
 rwa [Yt9 c] at h
theorem Zh5 (E:Nat→Addr) (m:Mat) (v:Value) (k:Nat) (w:World) (G:MatV w w.heap.size v m) (hs:Sml m) (O:Env E w) (C:1≤k) (h8:k≤8) (hc:chk m=0) :
  Calls Tryz.prog 15 #[v,.int .i64 k] w fun e w'=>∃ (vc g:Value) (c u:List Int),e=.returned (.tuple #[vc,g,.int .i64 0])∧Row w' w'.heap.size vc c∧Row w' w'.heap.size g u∧Below w.heap.size w w'∧MaxU (List.replicate k m) (nN m) c u:=by
 have Hs:=hid hs;obtain ⟨Z,W,x5,x4,x3⟩:=G.open;have s:=hid (Z1_ w m Z W);have I:=hid (G.up s.out);have H:=hid (O.up s.out);have d:=hid (Z4_ w m Z W);obtain ⟨o,cl,rfl,_⟩:=x4;obtain ⟨h,p,rfl,_⟩:=x3;subst x5;obtain ⟨X,hX⟩:∃ X,boxed w m (.slice o m.l.length cl) (.slice h m.i.length p)=X:=⟨_,rfl⟩;have P:X.heap.size=w.heap.size+1:=z47_;rw [hX] at s I H d;have y:=hid hX;have z:=hid P;unfold boxed at y;clear G hs O hX P;have x7:¬ (k:Int)<1:=y40_;have x9:¬ (8:Int)<(k:Int):=y40_;have x8:(1:Int)≤(k:Int):=y40_;have xa:(k:Int)≤8:=y40_;obtain ⟨Y,q⟩:∃ Y,Y=X.alloc (.cells #[.int .i64 m.t,.int .i64 m.n,.int .i64 m.a,.int .i64 m.b,.slice o m.l.length cl,.slice h m.i.length p] 25):=⟨_,rfl⟩;have J:=hid q;have S:Below X.heap.size X Y:=by rw [q];exact (Below.refl _ X).alloc (le_refl _) _
 have T:Blk Y (w.heap.size+1) 25 #[.int .i64 m.t,.int .i64 m.n,.int .i64 m.a,.int .i64 m.b,.slice o m.l.length cl,.slice h m.i.length p]:=by rw [q,← z.out];exact Blk.new X _ _
 have M:Hid (w.heap.size+1<Y.heap.size):=hid (by rw [q,← z.out];simp);have L:Hid (∀ j v,([.int .i64 m.t,.int .i64 m.n,.int .i64 m.a,.int .i64 m.b,.slice o m.l.length cl,.slice h m.i.length p]:List Value)[j]?=some v→Y.cell? ⟨w.heap.size+1,j,none⟩=some v):=hid fun j v hj=>by
  rw [T.cell j];simpa using hj
 have N:Hid (∀ u∈([.int .i64 m.t,.int .i64 m.n,.int .i64 m.a,.int .i64 m.b,.slice o m.l.length cl,.slice h m.i.length p]:List Value),u.oneCell'=true):=hid fun u hu=>q23_;have K:=hid S;have c0:=d.out.cell 0;have c1:=d.out.cell 1;have c2:=d.out.cell 2;have c3:=d.out.cell 3;have c4:=d.out.cell 4;have c5:=d.out.cell 5;clear S T q
 go_enter Tryz.func15,Tryz.ntmps15
 go_wp2_with fail
 rw [y.out,← J.out];refine (Zg7 (w.heap.size+1) k _ Y rfl N.out L.out M.out C y40_).mono ?_;rintro e w3 ⟨rfl,D,Q⟩;have B:=hid (Z0_ K.out (le_refl _) Q);have HM:Hid (MatL w3 w3.heap.size (.slice (some ⟨Y.heap.size,0,none⟩) k k) (List.replicate k m)):=hid (Zm7 D (I.out.up B.out) (le_refl _) z41_ (by obtain ⟨x6,hg,_⟩:=D;exact (Array.getElem?_eq_some_iff.1 hg).1));have x1:Hid (∀ x∈List.replicate k m,Sml x):=hid fun x hx=>by rw [List.eq_of_mem_replicate hx];exact Hs.out
 have x0:=hid (H.out.up B.out);have x2:=hid (Z0_ s.out (le_refl _) B.out);clear D Q K N L M J y z d c0 c1 c2 c3 c4 c5
 go_wp2_with fail
 refine (Vt2 E (List.replicate k m) _ _ HM.out x1.out x0.out (by rw [Zh4 C h8,hc];rfl)).mono ?_;rintro e r ⟨vc,g,c,u,rfl,U,V,R,F⟩;rw [Yt9 C] at F;have HR:=hid (⟨U,V,Z0_ x2.out (le_refl _) R,F⟩:Row r r.heap.size vc c∧Row r r.heap.size g u∧Below w.heap.size w r∧MaxU (List.replicate k m) (nN m) c u);clear U V R F;go_wp2;refine bodyPost_ret (v:=.tuple #[vc,g,.int .i64 0]) (by simp [results,Tryz.results15,go_sem]) rfl ?_;exact ⟨vc,g,c,u,rfl,HR.out⟩
theorem Zq3 (E:Nat→Addr) (m:Mat) (v:Value) (k:Nat) (w:World) (z:MatV w w.heap.size v m) (hs:Sml m) (K:Env E w) (J:1≤k) (h8:k≤8) (hc:chk m≠0) :
  Calls Tryz.prog 15 #[v,.int .i64 k] w fun e w'=>e=.returned (.tuple #[.slice none 0 0,.slice none 0 0,.int .i64 1])∧Below w.heap.size w w':=by
 have Hs:=hid hs;obtain ⟨R,Q,x2,x1,x0⟩:=z.open;have p:=hid (Z1_ w m R Q);have C:=hid (z.up p.out);have B:=hid (K.up p.out);have c:=hid (Z4_ w m R Q);obtain ⟨g,cl,rfl,_⟩:=x1;obtain ⟨d,h,rfl,_⟩:=x0;subst x2;obtain ⟨X,hX⟩:∃ X,boxed w m (.slice g m.l.length cl) (.slice d m.i.length h)=X:=⟨_,rfl⟩;have L:X.heap.size=w.heap.size+1:=z47_;rw [hX] at p C B c;have q:=hid hX;have r:=hid L;unfold boxed at q;clear z hs K hX L;have x4:¬ (k:Int)<1:=y40_;have x6:¬ (8:Int)<(k:Int):=y40_;have x5:(1:Int)≤(k:Int):=y40_;have x7:(k:Int)≤8:=y40_;obtain ⟨Y,o⟩:∃ Y,Y=X.alloc (.cells #[.int .i64 m.t,.int .i64 m.n,.int .i64 m.a,.int .i64 m.b,.slice g m.l.length cl,.slice d m.i.length h] 25):=⟨_,rfl⟩;have D:=hid o;have O:Below X.heap.size X Y:=by rw [o];exact (Below.refl _ X).alloc (le_refl _) _
 have P:Blk Y (w.heap.size+1) 25 #[.int .i64 m.t,.int .i64 m.n,.int .i64 m.a,.int .i64 m.b,.slice g m.l.length cl,.slice d m.i.length h]:=by rw [o,← r.out];exact Blk.new X _ _
 have H:Hid (w.heap.size+1<Y.heap.size):=hid (by rw [o,← r.out];simp);have G:Hid (∀ j v,([.int .i64 m.t,.int .i64 m.n,.int .i64 m.a,.int .i64 m.b,.slice g m.l.length cl,.slice d m.i.length h]:List Value)[j]?=some v→Y.cell? ⟨w.heap.size+1,j,none⟩=some v):=hid fun j v hj=>by
  rw [P.cell j];simpa using hj
 have I:Hid (∀ u∈([.int .i64 m.t,.int .i64 m.n,.int .i64 m.a,.int .i64 m.b,.slice g m.l.length cl,.slice d m.i.length h]:List Value),u.oneCell'=true):=hid fun u hu=>q23_;have F:=hid O;have c0:=c.out.cell 0;have c1:=c.out.cell 1;have c2:=c.out.cell 2;have c3:=c.out.cell 3;have c4:=c.out.cell 4;have c5:=c.out.cell 5;clear O P o
 go_enter Tryz.func15,Tryz.ntmps15
 go_wp2_with fail
 rw [q.out,← D.out];refine (Zg7 (w.heap.size+1) k _ Y rfl I.out G.out H.out J y40_).mono ?_;rintro e S ⟨rfl,y,M⟩;have s:=hid (Z0_ F.out (le_refl _) M);have U:Hid (MatL S S.heap.size (.slice (some ⟨Y.heap.size,0,none⟩) k k) (List.replicate k m)):=hid (Zm7 y (C.out.up s.out) (le_refl _) z41_ (by obtain ⟨x3,hg,_⟩:=y;exact (Array.getElem?_eq_some_iff.1 hg).1));have W:Hid (∀ x∈List.replicate k m,Sml x):=hid fun x hx=>by rw [List.eq_of_mem_replicate hx];exact Hs.out
 have T:=hid (B.out.up s.out);have Z:=hid (Z0_ p.out (le_refl _) s.out);clear y M F I G H D q r c c0 c1 c2 c3 c4 c5
 go_wp2_with fail
 refine (Vc9 E (List.replicate k m) _ _ U.out W.out T.out (by rw [Zh4 J h8];simpa using hc)).mono ?_;rintro e w4 ⟨rfl,N⟩;have V:=hid (Z0_ Z.out (le_refl _) N);clear N;go_wp2;refine bodyPost_ret (v:=.tuple #[.slice none 0 0,.slice none 0 0,.int .i64 1]) (by simp [results,Tryz.results15,go_sem]) rfl ?_;exact ⟨rfl,V.out⟩
theorem Zq4 (m:Mat) (v:Value) (k:Int) (w:World) (c:MatV w w.heap.size v m) (g:k<1∨8<k) :
  Calls Tryz.prog 15 #[v,.int .i64 k] w fun e w'=>e=.returned (.tuple #[.slice none 0 0,.slice none 0 0,.int .i64 1])∧Below w.heap.size w w':=by
 obtain ⟨p,o,j,h,d⟩:=c.open;have Hb0:=hid (Z1_ w m p o);obtain ⟨r,cl,rfl,_⟩:=h;obtain ⟨q,s,rfl,_⟩:=d;subst j;unfold boxed at Hb0;clear c;by_cases u:k<1
 ·exact y10_
 ·have x:8<k:=by omega
  clear g;exact y10_
theorem Zn0 (v:Value) (c:List Int) (w:World) (g:Row w w.heap.size v c) (hl:c.length≤1000):Calls Tryz.prog 16 #[v] w (Tells w ((c.length:Int) - ((Z3_ c (-1)).length:Int))):=by
 have h:=hid g;have k:=hid (show c.length≤1048576 by omega);have p:=P4_ c (-1);obtain ⟨A,u,rfl,_⟩:=id g;obtain ⟨o,d⟩:∃ o,(Z3_ c (-1)).length=o:=⟨_,rfl⟩;rw [d] at p ⊢;have m:=hid d;have x:IntKind.i64.wrap ((c.length:Int) - (o:Int))=(c.length:Int) - (o:Int):=y41_;clear g d
 go_enter Tryz.func16,Tryz.ntmps16
 go_wp2_with fail
 refine (D6_ _ c (-1) _ h.out k.out).mono ?_;rintro e z ⟨y,rfl,q,hb,_⟩;obtain ⟨r,s,rfl,_⟩:=q;rw [m.out];have j:=hid hb;clear hb;go_wp2;go_ret;exact ⟨rfl,j.out⟩
def setsK (c:List Int) (k:Nat):List (List Int):=(List.range k).map fun i:Nat=>Z3_ c ((i:Nat):Int)
def O8_ (c:List Int) (k i:Nat):List (List Int):=setsK c i ++ List.replicate (k - i) []
theorem Xq8 {c:List Int} {k i:Nat} (h:i≤k):(O8_ c k i).length=k:=by simp [O8_,setsK];omega
theorem Yk8 {c:List Int} {k i:Nat} (h:i<k):(O8_ c k i).set i (Z3_ c (i:Int))=O8_ c k (i+1):=by
 unfold O8_ setsK;rw [List.range_succ,List.map_append,show k - i=(k - (i+1))+1 by omega,List.replicate_succ,List.set_append];simp
theorem Xq9 (c:List Int) (k:Nat):O8_ c k k=setsK c k:=by simp [O8_]
theorem Yb4 (v:Value) (c:List Int) (k:Nat) (w:World) (s:Row w w.heap.size v c) (hl:c.length≤1000) (hk:k≤1000):Calls Tryz.prog 18 #[v,.int .i64 k] w fun e w'=>∃ u,e=.returned u∧Rows2 w' w'.heap.size u (setsK c k)∧Below w.heap.size w w':=by
 have Q:=hid (show c.length≤1048576 by omega);have x0:(k:Int)≤1000:=y40_;obtain ⟨A,cp,rfl,_⟩:=id s;have Z:=run_make_row' 22 28 (.slice none 0 0) 24 Tryz.underlying22 Zs2 rfl .i64 .i64 k y40_ y40_ w;obtain ⟨Y,j⟩:∃ Y,w.alloc (.cells (madeCells #[.slice none 0 0] k) 28)=Y:=⟨_,rfl⟩;obtain ⟨G,d⟩:∃ G,w.heap.size=G:=⟨_,rfl⟩;have C:=hid j;have L:=hid d;have r:Below w.heap.size w Y:=by rw [← j];exact (Below.refl _ w).alloc (le_refl _) _
 have B:=hid s;have y:Hid (AdjR Y G (List.replicate k (.slice none 0 0)) (O8_ c k 0)):=hid (by
  have h:=AdjR.made (w:=Y) (G:=G) (n:=k) (by rw [← j,← d];exact Blk.new w _ _);have e:O8_ c k 0=List.replicate k []:=by simp [O8_,setsK]
  rw [e];exact h)
 rw [d] at r B;have D:=hid r;have M:=hid (show G≤w.heap.size by omega);rw [d];clear s j r d hl
 go_enter Tryz.func18,Tryz.ntmps18
 go_wp2_with fail
 rw [C.out,L.out]
 go_loopw [6,11] (fun _ x wr=>∃ (i:Nat) (vs:List Value),x=.int .i64 i∧i≤k∧AdjR wr G vs (O8_ c k i)∧Below G w wr) (fun _ x _=>k - (intOf x).toNat)
 case atStart=>exact ⟨0,_,rfl,Nat.zero_le _,y.out,D.out⟩
 case round =>
  clear y D Z C;obtain ⟨i,vs,rfl,W,ha,m⟩:=hrel;have o:=hid ha;have O:=hid ((B.out.below m).mono (show G≤wr.heap.size by have:=m.size;have:=M.out;omega));have E:=hid m;clear ha m;by_cases I:i<k
  ·have x1:(i:Int)<(k:Int):=by omega
   have H:=Xq8 (c:=c) (k:=k) (i:=i) W;have S:=hid (Yk8 (c:=c) I);have R:=hid H;clear H
   go_wp2_with fail
   refine (D6_ _ c i _ O.out Q.out).mono ?_;rintro e w1 ⟨vk,rfl,J,q,F⟩;have z:=hid (o.out.up q);have U:G<wr.heap.size:=o.out.blk.lt;have N:=hid (z.out.put (i:=i) J (fun g V=>Nat.lt_of_lt_of_le U (F g V)));obtain ⟨K,T,rfl,_⟩:=J;obtain ⟨A0,c0,q0,f0⟩:=z.out.nth (i:=i) (by rw [R.out];exact I);have P:Hid (Below G w (w1.setCell ⟨G,i,none⟩ (.slice K (Z3_ c (i:Int)).length T))):=hid ((E.out.trans (q.mono y40_)).setCell (p:=⟨G,i,none⟩) (le_refl _) _);clear q F;go_wp2
   go_roundw
   case rel=>exact ⟨i+1,_,j41_,y40_,by have h:=N.out;rw [S.out] at h;exact h,P.out⟩
   exact mz_
  ·have X:i=k:=by omega
   subst X;go_wp2;go_ret;have h:=o.out;rw [Xq9] at h;exact ⟨_,rfl,by have h2:=h.rows (by simp [setsK];omega);simpa [setsK] using h2,E.out⟩
theorem E8_ {m:Mat} (hc:chk m=0):rankT m (allL m.n)=((rkP 4 m (memP (allL m.n)):Nat):Int)∧rkP 4 m (memP (allL m.n))≤nN m∧nN m≤64:=by
 have c:=Y0_ hc;have h2:=Zx0 (n:=m.n) y40_ y40_;have h3:=(rk_of hc).le_cnt (memP (allL m.n));have d:=A8_ (memP (allL m.n)) (nN m);exact ⟨Yd3 (mayI_iff.2 ⟨hc,h2⟩),y40_,c.2⟩
theorem Zu1 (E:Nat→Addr) (m:Mat) (v:Value) (k:Nat) (w:World) (N:MatV w w.heap.size v m) (hs:Sml m) (V:Env E w) (U:1≤k) (L:k≤8) (hc:chk m=0) :
  Calls Tryz.prog 6 #[v,.int .i64 k] w fun e w'=>∃ (c u:List Int) (vl o:Value),MaxU (List.replicate k m) (nN m) c u∧Below w.heap.size w w' ∧
   (((c.length:Int) - ((Z3_ c (-1)).length:Int)=(k:Int) * rankT m (allL m.n)∧e=.returned (.tuple #[vl,.slice none 0 0,.int .i64 0])∧Rows2 w' w'.heap.size vl (setsK c k))∨(¬ (c.length:Int) - ((Z3_ c (-1)).length:Int)=(k:Int) * rankT m (allL m.n)∧e=.returned (.tuple #[.slice none 0 0,o,.int .i64 170])∧Row w' w'.heap.size o u)):=by
 have T:=hid hs;obtain ⟨lv,iv,xi,xg,xe⟩:=N.open;have j:=hid (Z1_ w m lv iv);have r:=hid (N.up j.out);have q:=hid (V.up j.out);have g:=hid (Z4_ w m lv iv);obtain ⟨I,cl,rfl,_⟩:=xg;obtain ⟨H,K,rfl,_⟩:=xe;subst xi;obtain ⟨X,hX⟩:∃ X,boxed w m (.slice I m.l.length cl) (.slice H m.i.length K)=X:=⟨_,rfl⟩;have x0:X.heap.size=w.heap.size+1:=z47_;rw [hX] at j r q g;have J:=hid hX;have x9:=hid x0;unfold boxed at J;clear N hs V hX x0;have S:=hid hc;have y:=hid (⟨U,L⟩:1≤k∧k≤8);have xj:(k:Int)≤8:=y40_;obtain ⟨G,x2,x3⟩:=E8_ hc;obtain ⟨R,Y⟩:∃ R:Nat,rkP 4 m (memP (allL m.n))=R:=⟨_,rfl⟩;rw [Y] at G x2;have xf:k * R≤8 * 64:=Nat.mul_le_mul L y40_;obtain ⟨z,hz0⟩:∃ z:Int,(k:Int) * (R:Int)=z:=⟨_,rfl⟩;have hw:IntKind.i64.wrap ((k:Int) * (R:Int))=z:=k24_;have hz:(k:Int) * rankT m (allL m.n)=z:=by rw [G];exact hz0
 clear hz0;have Q:=hid hz;have xc:=hid G;have xd:=hid x3;have c0:=g.out.cell 0;have c1:=g.out.cell 1;have c2:=g.out.cell 2;have c3:=g.out.cell 3;have c4:=g.out.cell 4;have c5:=g.out.cell 5;clear G x2 x3 Y xf hz hc U L
 go_enter Tryz.func6,Tryz.ntmps6
 go_wp2_with fail
 rw [J.out];refine (Zh5 E m _ k X r.out T.out q.out y.out.1 y.out.2 S.out).mono ?_;rintro e d ⟨vc,o,c,u,rfl,x4,x5,x,M⟩;have P:=hid M;have HC:=hid x4;have HU:=hid x5;have xh:=(Zz6 (J1_ y.out.1 y.out.2 S.out) M).1;have Hl:=hid (show c.length≤1000 by have:=xd.out;omega);obtain ⟨Ac,cc,rfl,_⟩:=x4;obtain ⟨s,Z⟩:∃ s,(c.length:Int) - ((Z3_ c (-1)).length:Int)=s:=⟨_,rfl⟩;have HT0:=hid Z;replace r:=hid (r.out.up x);replace q:=hid (q.out.up x);replace g:=hid (g.out.below x g.out.lt);replace j:=hid (Z0_ j.out (le_refl _) x);have B:Hid (∀ W,Below d.heap.size d W→Calls Tryz.prog 16 #[.slice Ac c.length cc] W fun e w'=>e=.returned (.int .i64 s)∧Below d.heap.size d w'):=hid fun W hW=>z21_;have C:Hid (∀ W,Below d.heap.size d W→Calls Tryz.prog 17 #[.agg #[.int .i64 m.t,.int .i64 m.n,.int .i64 m.a,.int .i64 m.b,.slice I m.l.length cl,.slice H m.i.length K]] W fun e w'=>e=.returned (.int .i64 R)∧Below d.heap.size d w'):=hid fun W hW=>by
  refine (Yk7 E m _ W (r.out.up hW) T.out (q.out.up hW)).mono ?_;rintro e w' ⟨rfl,hb⟩;rw [xc.out];exact ⟨rfl,Z0_ hW (le_refl _) hb⟩
 have D:Hid (∀ W,Below d.heap.size d W→(W.cell? ⟨w.heap.size,0,none⟩=some (.int .i64 m.t)∧W.cell? ⟨w.heap.size,1,none⟩=some (.int .i64 m.n)∧W.cell? ⟨w.heap.size,2,none⟩=some (.int .i64 m.a)∧W.cell? ⟨w.heap.size,3,none⟩=some (.int .i64 m.b)∧W.cell? ⟨w.heap.size,4,none⟩=some (.slice I m.l.length cl)∧W.cell? ⟨w.heap.size,5,none⟩=some (.slice H m.i.length K))):=hid fun W hW=>by
  have h:=g.out.below hW g.out.lt;exact x23_
 clear M x5 xh x Z J x9 c0 c1 c2 c3 c4 c5;by_cases F:s=z
 ·subst F
  go_wp2;refine Z6_ d.heap.size d z40_ z40_ (Below.refl _ _) ?_
  iterate 7 (first
   | go_big_quiet_skip
   | go_big_quiet_step (with_reducible first | exact B.out _ | exact C.out _)
   | (go_big_quiet_want;apply Exists.intro;refine ⟨fun W hW=>?_,?_⟩;(· obtain ⟨k0,k1,k2,k3,k4,k5⟩:=D.out W hW;go_simp;first | exact rfl | exact ⟨rfl,rfl⟩);go_simp;go_big_quiet_on))
  refine wpQuiet_nil ?_;intro w7 p;have O:=hid p;clear p B C D
  go_wp2_with fail
  refine (Yb4 _ c k w7 (HC.out.up O.out) Hl.out y40_).mono ?_;rintro e w8 ⟨us,rfl,x6,x1⟩;have x8:=hid x6;have xb:=hid (Z0_ j.out (le_refl _) (Z0_ O.out (le_refl _) x1));clear x6 x1;go_wp2;refine bodyPost_ret (v:=.tuple #[us,.slice none 0 0,.int .i64 0]) z44_ rfl ?_;exact ⟨c,u,us,o,P.out,xb.out,.inl ⟨HT0.out.trans Q.out.symm,rfl,x8.out⟩⟩
 ·have xk:(s != z)=true:=by simpa using F
  have Hq:=hid F;clear F;go_wp2;refine Z6_ d.heap.size d z40_ z40_ (Below.refl _ _) ?_
  iterate 7 (first
   | go_big_quiet_skip
   | go_big_quiet_step (with_reducible first | exact B.out _ | exact C.out _)
   | (go_big_quiet_want;apply Exists.intro;refine ⟨fun W hW=>?_,?_⟩;(· obtain ⟨k0,k1,k2,k3,k4,k5⟩:=D.out W hW;go_simp;first | exact rfl | exact ⟨rfl,rfl⟩);go_simp;go_big_quiet_on))
  refine wpQuiet_nil ?_;intro w7 p;have xa:=hid (Z0_ j.out (le_refl _) p);have x7:=hid (HU.out.up p);clear p B C D;go_wp2;refine bodyPost_ret (v:=.tuple #[.slice none 0 0,o,.int .i64 170]) z44_ rfl ?_;exact ⟨c,u,o,o,P.out,xa.out,.inr ⟨fun h=>Hq.out (HT0.out.symm.trans (h.trans Q.out)),rfl,x7.out⟩⟩
theorem Zh6 (E:Nat→Addr) (m:Mat) (v:Value) (k:Nat) (w:World) (J:MatV w w.heap.size v m) (hs:Sml m) (S:Env E w) (Q:1≤k) (G:k≤8) (hc:chk m=0) :
  Calls Tryz.prog 8 #[v,.int .i64 k] w fun e w'=>∃ (c u:List Int) (vl o:Value),MaxU (List.replicate k m) (nN m) c u∧Below w.heap.size w w' ∧
   (((c.length:Int) - ((Z3_ c (-1)).length:Int)=m.n∧e=.returned (.tuple #[vl,.slice none 0 0,.int .i64 0])∧Rows2 w' w'.heap.size vl (setsK c k))∨(¬ (c.length:Int) - ((Z3_ c (-1)).length:Int)=m.n∧e=.returned (.tuple #[.slice none 0 0,o,.int .i64 171])∧Row w' w'.heap.size o u)):=by
 have Hs:=hid hs;obtain ⟨lv,iv,xf,xc,xa⟩:=J.open;have j:=hid (Z1_ w m lv iv);have z:=hid (J.up j.out);have y:=hid (S.up j.out);have d:=hid (Z4_ w m lv iv);obtain ⟨L,cl,rfl,_⟩:=xc;obtain ⟨K,P,rfl,_⟩:=xa;subst xf;obtain ⟨X,hX⟩:∃ X,boxed w m (.slice L m.l.length cl) (.slice K m.i.length P)=X:=⟨_,rfl⟩;have V:X.heap.size=w.heap.size+1:=z47_;rw [hX] at j z y d;have D:=hid hX;have x6:=hid V;unfold boxed at D;clear J hs S hX V;have O:=hid hc;have x:=hid (⟨Q,G⟩:1≤k∧k≤8);have xh:(k:Int)≤8:=y40_;obtain ⟨I,Z,x0⟩:=E8_ hc;obtain ⟨R,T⟩:∃ R:Nat,rkP 4 m (memP (allL m.n))=R:=⟨_,rfl⟩;rw [T] at I Z;have xb:k * R≤8 * 64:=Nat.mul_le_mul G y40_;have hz:True:=trivial;have HZ:=hid hz;have xg:=hid I;have x9:=hid x0;have c0:=d.out.cell 0;have c1:=d.out.cell 1;have c2:=d.out.cell 2;have c3:=d.out.cell 3;have c4:=d.out.cell 4;have c5:=d.out.cell 5;clear I Z x0 T xb hz hc Q G
 go_enter Tryz.func8,Tryz.ntmps8
 go_wp2_with fail
 rw [D.out];refine (Zh5 E m _ k X z.out Hs.out y.out x.out.1 x.out.2 O.out).mono ?_;rintro e g ⟨vc,o,c,u,rfl,x1,x2,s,H⟩;have N:=hid H;have HC:=hid x1;have HU:=hid x2;have xd:=(Zz6 (J1_ x.out.1 x.out.2 O.out) H).1;have Hl:=hid (show c.length≤1000 by have:=x9.out;omega);obtain ⟨Ac,cc,rfl,_⟩:=x1;obtain ⟨p,U⟩:∃ p,(c.length:Int) - ((Z3_ c (-1)).length:Int)=p:=⟨_,rfl⟩;have HT0:=hid U;replace z:=hid (z.out.up s);replace y:=hid (y.out.up s);replace d:=hid (d.out.below s d.out.lt);replace j:=hid (Z0_ j.out (le_refl _) s);have B:Hid (∀ W,Below g.heap.size g W→Calls Tryz.prog 16 #[.slice Ac c.length cc] W fun e w'=>e=.returned (.int .i64 p)∧Below g.heap.size g w'):=hid fun W hW=>z21_;have C:Hid (∀ W,Below g.heap.size g W→(W.cell? ⟨w.heap.size,0,none⟩=some (.int .i64 m.t)∧W.cell? ⟨w.heap.size,1,none⟩=some (.int .i64 m.n)∧W.cell? ⟨w.heap.size,2,none⟩=some (.int .i64 m.a)∧W.cell? ⟨w.heap.size,3,none⟩=some (.int .i64 m.b)∧W.cell? ⟨w.heap.size,4,none⟩=some (.slice L m.l.length cl)∧W.cell? ⟨w.heap.size,5,none⟩=some (.slice K m.i.length P))):=hid fun W hW=>by
  have h:=d.out.below hW d.out.lt;exact x23_
 clear H x2 xd s U D x6 c0 c1 c2 c3 c4 c5;by_cases r:p=m.n
 ·have F:=hid r
  have xe:(p != m.n)=false:=by simp [r]
  clear r;go_wp2;refine Z6_ g.heap.size g z40_ z40_ (Below.refl _ _) ?_
  iterate 5 (first
   | go_big_quiet_skip
   | go_big_quiet_step (with_reducible first | exact B.out _)
   | (go_big_quiet_want;apply Exists.intro;refine ⟨fun W hW=>?_,?_⟩;(· obtain ⟨k0,k1,k2,k3,k4,k5⟩:=C.out W hW;go_simp;first | exact rfl | exact ⟨rfl,rfl⟩);go_simp;go_big_quiet_on))
  refine wpQuiet_nil ?_;intro w7 q;have M:=hid q;clear q B C
  go_wp2_with fail
  refine (Yb4 _ c k w7 (HC.out.up M.out) Hl.out y40_).mono ?_;rintro e w8 ⟨us,rfl,x3,Y⟩;have x5:=hid x3;have x8:=hid (Z0_ j.out (le_refl _) (Z0_ M.out (le_refl _) Y));clear x3 Y;go_wp2;refine bodyPost_ret (v:=.tuple #[us,.slice none 0 0,.int .i64 0]) x44_ rfl ?_;exact ⟨c,u,us,o,N.out,x8.out,.inl ⟨HT0.out.trans F.out,rfl,x5.out⟩⟩
 ·have xe:(p != m.n)=true:=by simpa using r
  have F:=hid r;clear r;go_wp2;refine Z6_ g.heap.size g z40_ z40_ (Below.refl _ _) ?_
  iterate 5 (first
   | go_big_quiet_skip
   | go_big_quiet_step (with_reducible first | exact B.out _)
   | (go_big_quiet_want;apply Exists.intro;refine ⟨fun W hW=>?_,?_⟩;(· obtain ⟨k0,k1,k2,k3,k4,k5⟩:=C.out W hW;go_simp;first | exact rfl | exact ⟨rfl,rfl⟩);go_simp;go_big_quiet_on))
  refine wpQuiet_nil ?_;intro w7 q;have x7:=hid (Z0_ j.out (le_refl _) q);have x4:=hid (HU.out.up q);clear q B C;go_wp2;refine bodyPost_ret (v:=.tuple #[.slice none 0 0,o,.int .i64 171]) x44_ rfl ?_;exact ⟨c,u,o,o,N.out,x7.out,.inr ⟨fun h=>F.out (HT0.out.symm.trans (h)),rfl,x4.out⟩⟩
theorem Yb5 (m:Mat) (v:Value) (k:Int) (w:World) (h:MatV w w.heap.size v m) (q:k<1∨8<k) :
  Calls Tryz.prog 6 #[v,.int .i64 k] w fun e w'=>e=.returned (.tuple #[.slice none 0 0,.slice none 0 0,.int .i64 1])∧Below w.heap.size w w':=by
 obtain ⟨s,r,D,C,B⟩:=h.open;have d:=hid (Z1_ w m s r);have j:=hid (h.up d.out);have c:=hid (Z4_ w m s r);obtain ⟨x,cl,rfl,_⟩:=C;obtain ⟨u,z,rfl,_⟩:=B;subst D;obtain ⟨X,g⟩:∃ X,boxed w m (.slice x m.l.length cl) (.slice u m.i.length z)=X:=⟨_,rfl⟩;rw [g] at d j c;have o:=hid g;unfold boxed at o;have E:=c.out.cell 0;have c1:=c.out.cell 1;have c2:=c.out.cell 2;have c3:=c.out.cell 3;have c4:=c.out.cell 4;have c5:=c.out.cell 5;clear h g
 go_enter Tryz.func6,Tryz.ntmps6
 go_wp2_with fail
 rw [o.out];refine (Zq4 m _ k X j.out q).mono ?_;rintro e F ⟨rfl,p⟩;have y:=hid (Z0_ d.out (le_refl _) p);clear p q;go_wp2;refine bodyPost_ret (v:=.tuple #[.slice none 0 0,.slice none 0 0,.int .i64 1]) z44_ rfl ?_;exact ⟨rfl,y.out⟩
theorem Xa0 (m:Mat) (v:Value) (k:Int) (w:World) (h:MatV w w.heap.size v m) (q:k<1∨8<k) :
  Calls Tryz.prog 8 #[v,.int .i64 k] w fun e w'=>e=.returned (.tuple #[.slice none 0 0,.slice none 0 0,.int .i64 1])∧Below w.heap.size w w':=by
 obtain ⟨s,r,D,C,B⟩:=h.open;have d:=hid (Z1_ w m s r);have j:=hid (h.up d.out);have c:=hid (Z4_ w m s r);obtain ⟨x,cl,rfl,_⟩:=C;obtain ⟨u,z,rfl,_⟩:=B;subst D;obtain ⟨X,g⟩:∃ X,boxed w m (.slice x m.l.length cl) (.slice u m.i.length z)=X:=⟨_,rfl⟩;rw [g] at d j c;have o:=hid g;unfold boxed at o;have E:=c.out.cell 0;have c1:=c.out.cell 1;have c2:=c.out.cell 2;have c3:=c.out.cell 3;have c4:=c.out.cell 4;have c5:=c.out.cell 5;clear h g
 go_enter Tryz.func8,Tryz.ntmps8
 go_wp2_with fail
 rw [o.out];refine (Zq4 m _ k X j.out q).mono ?_;rintro e F ⟨rfl,p⟩;have y:=hid (Z0_ d.out (le_refl _) p);clear p q;go_wp2;refine bodyPost_ret (v:=.tuple #[.slice none 0 0,.slice none 0 0,.int .i64 1]) x44_ rfl ?_;exact ⟨rfl,y.out⟩
open Go Go.RowKit
theorem Vd0 {n a:Nat} (d:a≤n) (h2:n≤64):rankT (unU n a) (allL (n:Int))=(a:Int):=by
 have hc:=G2_ (n:=(n:Int)) (a:=(a:Int)) y40_ y40_ y40_;obtain ⟨c,hl⟩:=Ym8 h2;rw [Yd3 (mayI_iff.2 ⟨hc,c⟩),Zw6 (n:=(n:Int)) (a:=(a:Int)) (by rw [Int.toNat_natCast];exact c),hl];show ((min ((a:Int)).toNat n:Nat):Int)=a;omega
theorem Xp0 (a:Int):∀ k:Nat,((List.replicate k a).map Int.toNat).sum=k * a.toNat
 | 0=>by simp
 | k+1=>by rw [List.replicate_succ,List.map_cons,List.sum_cons,Xp0 a k,Nat.succ_mul];omega
theorem Zx7 {n a k:Nat} {c u:List Int} (o:a≤n) (h2:n≤64) (g:1≤k) (j:k≤8) (f:MaxU (List.replicate k (unU n a)) (nN (unU n a)) c u):c.length=n∧n=(Z3_ c (-1)).length+min (k * a) n:=by
 have hc:=G2_ (n:=(n:Int)) (a:=(a:Int)) y40_ y40_ y40_;have d:=J1_ g j hc;have m:nN (unU n a)=n:=Int.toNat_natCast n;rw [m] at d f;have e:List.replicate k (unU n a)=(List.replicate k (a:Int)).map (unU n):=by rw [List.map_replicate]
 refine ⟨(Zz6 d f).1,?_⟩;rw [e] at d f;have h:=Vw2 (Int.toNat_natCast n) d f
 rwa [Xp0,Int.toNat_natCast] at h
theorem Xp1 {n a k:Nat} {c u:List Int} (d:a≤n) (h2:n≤64) (f:1≤k) (g:k≤8) (h:MaxU (List.replicate k (unU n a)) (nN (unU n a)) c u):((c.length:Int) - ((Z3_ c (-1)).length:Int)=(k:Int) * rankT (unU n a) (allL (unU n a).n))↔k * a≤n:=by
 obtain ⟨j,m⟩:=Zx7 d h2 f g h;have e:=Vd0 d h2;rw [show (unU n a).n=(n:Int) from rfl,e,← Int.natCast_mul];omega
theorem Yu0 {n a k:Nat} {c u:List Int} (d:a≤n) (h2:n≤64) (e:1≤k) (f:k≤8) (g:MaxU (List.replicate k (unU n a)) (nN (unU n a)) c u):((c.length:Int) - ((Z3_ c (-1)).length:Int)=(unU n a).n)↔n≤k * a:=by
 obtain ⟨h,j⟩:=Zx7 d h2 e f g;rw [show (unU n a).n=(n:Int) from rfl];omega
theorem Yu1 {n a k i:Nat} {c u:List Int} (h:a≤n) (h2:n≤64) (e:1≤k) (f:k≤8) (g:MaxU (List.replicate k (unU n a)) (nN (unU n a)) c u) (hi:i<k):(Z3_ c (i:Int)).length≤a:=by
 have hc:=G2_ (n:=(n:Int)) (a:=(a:Int)) y40_ y40_ y40_;have m:=J1_ e f hc;have o:=(Zg5 m g).1;have h3:=o.cnt_class (k:=i) y48_;have d:=J4_ (c:=c) (k:=(i:Int)) (by have:=(Zx7 h h2 e f g).1;omega);have j:=(Zx7 h h2 e f g).1;rw [j] at h3 d;rw [← Y9_ d,show (List.replicate k (unU n a)).getD i default=unU n a by simp [List.getD,hi],Zw6 (n:=(n:Int)) (a:=(a:Int)) (by rw [Int.toNat_natCast];exact d)] at h3;have p:((a:Int)).toNat=a:=Int.toNat_natCast a;omega
theorem Vt3 {c u:List Int} (d:MaxU (List.replicate 2 (unU 4 2)) (nN (unU 4 2)) c u):(Z3_ c ((0:Nat):Int)).length=2:=by
 have f:=Yu1 (n:=4) (a:=2) (k:=2) (i:=0) q41_ q41_ q41_ q41_ d q41_;have h2:=Yu1 (n:=4) (a:=2) (k:=2) (i:=1) q41_ q41_ q41_ q41_ d q41_;obtain ⟨h3,p⟩:=Zx7 (n:=4) (a:=2) (k:=2) q41_ q41_ q41_ q41_ d;have hc:=G2_ (n:=4) (a:=2) q41_ q41_ q41_;have j:=J1_ (k:=2) q41_ q41_ hc;have o:=(Zg5 j d).1;have g:=G1_ o.rng allP c.length (le_refl _);have m:c.length≤64:=y40_;have e:∀ k:Int,cnt (andP (memP (Z3_ c k)) allP) c.length=(Z3_ c k).length:=fun k=>by
  rw [Y9_ (J4_ m k)];exact I3_ fun i _=>by simp [andP,allP]
 rw [e,Zw5,show (List.replicate 2 (unU 4 2)).length=2 from rfl] at g;have h:0+cnt (andP (memP (Z3_ c ((0:Nat):Int))) allP) c.length+cnt (andP (memP (Z3_ c ((1:Nat):Int))) allP) c.length+(Z3_ c (-1)).length=c.length:=g;rw [e,e] at h;have f:(Z3_ c ((0:Nat):Int)).length≤2:=f;omega
theorem evb_u {c u:List Int} {k:Nat} (h:1≤k) (j:k≤8) (e:MaxU (List.replicate k (unU 5 2)) (nN (unU 5 2)) c u):InN 5 u∧(k=2→u.length=5):=by
 have hc:=G2_ (n:=5) (a:=2) q41_ q41_ q41_;have f:=J1_ h j hc;obtain ⟨_,d,h2,_⟩:=Zz6 f e;have d:InN 5 u:=d;refine ⟨d,fun g=>?_⟩;subst g;obtain ⟨_,m⟩:=Zx7 (n:=5) (a:=2) (k:=2) q41_ q41_ q41_ q41_ e;rw [Zw4,Zw6 (n:=5) (a:=2) d,show (2:Int).toNat=2 from rfl] at h2;have:=Yw3 d;omega
theorem Rows2.at {w:World} {v:Value} {pp:List (List Int)} (h:Rows2 w w.heap.size v pp) {k:Nat} (j:k<pp.length):∃ (d:Addr) (c:Nat) (A:Option Addr) (c2:Nat),v=.slice (some d) pp.length c∧∀ W,Below w.heap.size w W→W.cell? (d.add k)=some (.slice A (pp.getD k []).length c2):=by
 obtain ⟨A,c,rfl,_,hc⟩:=h;obtain ⟨d,u,rfl,m,g,⟨e,c2,rfl,_⟩⟩:=hc k j;exact ⟨d,c,e,c2,rfl,fun W f=>by
  have:(d.add k).block=d.block:=by unfold Addr.add;split<;>rfl
  rw [f.cell (by rw [this];exact m)];exact g⟩
theorem Zh7 (c:List Int) (k:Nat):(setsK c k).length=k:=by simp [setsK]
theorem Vd1 (c:List Int) {k i:Nat} (h:i<k):(setsK c k).getD i []=Z3_ c (i:Int):=by simp [setsK,List.getD,h]
def may17 (m:Mat) (k:Int):Bool:=decide (chk m=0) && (decide (1≤k) && decide (k≤8))
theorem R0_ (m:Mat) (v:Value) (k:Int) (w:World) (o:MatV w w.heap.size v m) (hs:Sml m):Calls Tryz.prog 19 #[v,.int .i64 k] w (Says w (may17 m k)):=by
 have C:=hid hs;obtain ⟨y,x,I,H,G⟩:=o.open;have g:=hid (Z1_ w m y x);have p:=hid (o.up g.out);have c:=hid (Z4_ w m y x);obtain ⟨B,cl,rfl,-⟩:=H;obtain ⟨z,E,rfl,-⟩:=G;subst I;obtain ⟨X,j⟩:∃ X,boxed w m (.slice B m.l.length cl) (.slice z m.i.length E)=X:=⟨_,rfl⟩;rw [j] at g p c;have q:=hid j;unfold boxed at q;obtain ⟨d,u⟩:∃ d,chk m=d:=⟨_,rfl⟩;have r:=hid u;have D:=c.out.cell 0;have c1:=c.out.cell 1;have c2:=c.out.cell 2;have c3:=c.out.cell 3;have c4:=c.out.cell 4;have c5:=c.out.cell 5;clear o hs j u
 go_enter Tryz.func19,Tryz.ntmps19
 go_wp2_with fail
 rw [q.out];refine (Q1_ m _ X p.out C.out).mono ?_;rintro e J ⟨rfl,s⟩;rw [r.out];have Hb3:=hid (Z0_ g.out (le_refl _) s);clear s D c1 c2 c3 c4 c5;have Hr:Hid (may17 m k=(decide (d=0) && (decide (1≤k) && decide (k≤8)))):=hid (by unfold may17;rw [r.out]);by_cases h0:d=0
 ·subst h0
  by_cases h:1≤k
  ·by_cases h8:k≤8
   ·have He:=hid (Hr.out.trans (by simp [h,h8]):may17 m k=true)
    exact y25_
   ·have He:=hid (Hr.out.trans (by simp [h8]):may17 m k=false)
    exact y25_
  ·have He:=hid (Hr.out.trans (by simp [h]):may17 m k=false)
   clear Hr;go_wp2;go_ret;exact ⟨by rw [He.out];first | rfl | simp [h],Hb3.out⟩
 ·have He:=hid (Hr.out.trans (by simp [h0]):may17 m k=false)
  have F:(d==0)=false:=y50_;clear Hr;go_wp2;go_ret;exact ⟨by rw [He.out];first | rfl | simp [F],Hb3.out⟩
theorem M3_ (E:Nat→Addr) (w:World) (S:Env E w):Calls Tryz.prog 5 #[] w (Truly w):=by
 obtain ⟨z,B⟩:∃ z,z=(w.alloc (.cells #[.int .i64 0,.int .i64 4,.int .i64 2,.int .i64 0,.slice none 0 0,.slice none 0 0] 25)).alloc (.cells #[.int .i64 0,.int .i64 5,.int .i64 2,.int .i64 0,.slice none 0 0,.slice none 0 0] 25):=⟨_,rfl⟩;have Q:=hid B;have F:Below w.heap.size w z:=by rw [B];exact ((Below.refl _ w).alloc (le_refl _) _).alloc k40_ _
 have d:Hid (Blk z w.heap.size 25 #[.int .i64 0,.int .i64 4,.int .i64 2,.int .i64 0,.slice none 0 0,.slice none 0 0]):=hid (by rw [B];exact (Blk.new w _ _).alloc _);have c:Hid (Blk z (w.heap.size+1) 25 #[.int .i64 0,.int .i64 5,.int .i64 2,.int .i64 0,.slice none 0 0,.slice none 0 0]):=hid (by
  rw [B];have:=Blk.new (w.alloc (.cells #[.int .i64 0,.int .i64 4,.int .i64 2,.int .i64 0,.slice none 0 0,.slice none 0 0] 25)) 25 #[.int .i64 0,.int .i64 5,.int .i64 2,.int .i64 0,.slice none 0 0,.slice none 0 0];simpa using this)
 have Hb0:=hid F;have g:=hid (S.up F);clear S B F;have k0:=d.out.cell 0;have k1:=d.out.cell 1;have k2:=d.out.cell 2;have k3:=d.out.cell 3;have k4:=d.out.cell 4;have k5:=d.out.cell 5
 go_enter Tryz.func5,Tryz.ntmps5
 go_wp2_with fail
 rw [← Q.out];refine (Zu1 E (unU 4 2) _ 2 _ (O9_ _ _ 0 4 2 0) (Zz3 ..) g.out q41_ q41_ (G2_ q41_ q41_ q41_)).mono ?_;rintro e w3 ⟨c3,u3,x3,y3,K,C,⟨G,rfl,O⟩ | ⟨G,rfl,O⟩⟩;rotate_left
 ·exact absurd ((Xp1 (n:=4) (a:=2) (k:=2) q41_ q41_ q41_ q41_ K).2 q41_) G
 have U:=Vt3 K;obtain ⟨D,x9,A3,d3,rfl,N⟩:=O.at (k:=0) (by rw [Zh7];decide);rw [Vd1 c3 (show 0<2 by decide),U,show D.add 0=D by obtain ⟨x1,x2,x3⟩:=D;cases x3<;>simp [Addr.add]] at N;have x7:=hid N;rw [Zh7];have h:=hid (Below.refl w3.heap.size w3);clear N O K G U Q;clear k0 k1 k2 k3 k4 k5;replace g:=hid (g.out.up C);replace d:=hid (d.out.below C d.out.lt);replace c:=hid (c.out.below C c.out.lt);replace Hb0:=hid (Z0_ Hb0.out (le_refl _) C);clear C;have q:=c.out.cell 0;have r:=c.out.cell 1;have s:=c.out.cell 2;have u:=c.out.cell 3;have v:=c.out.cell 4;have x:=c.out.cell 5
 go_wp2_with fail
 refine (Zu1 E (unU 5 2) _ 3 _ (O9_ _ _ 0 5 2 0) (Zz3 ..) g.out q41_ q41_ (G2_ q41_ q41_ q41_)).mono ?_;rintro e w4 ⟨c4,u4,x4,y4,L,y,⟨H,rfl,P⟩ | ⟨H,rfl,P⟩⟩
 skip
 ·exact absurd ((Xp1 (n:=5) (a:=2) (k:=3) q41_ q41_ q41_ q41_ L).1 H) q41_
 have Y:=(evb_u q41_ q41_ L).1;have j:=hid P;have R:=hid Y;obtain ⟨A4,d4,rfl,-⟩:=P;have h:=hid (Z0_ h.out (le_refl _) y);clear L H Y;clear q r s u v x;replace g:=hid (g.out.up y);replace d:=hid (d.out.below y d.out.lt);replace c:=hid (c.out.below y c.out.lt);replace Hb0:=hid (Z0_ Hb0.out (le_refl _) y);clear y;have q:=c.out.cell 0;have r:=c.out.cell 1;have s:=c.out.cell 2;have u:=c.out.cell 3;have v:=c.out.cell 4;have x:=c.out.cell 5
 go_wp2_with fail
 refine (Zh6 E (unU 5 2) _ 3 _ (O9_ _ _ 0 5 2 0) (Zz3 ..) g.out q41_ q41_ (G2_ q41_ q41_ q41_)).mono ?_;rintro e w5 ⟨c5,u5,x5,y5,V,m,⟨I,rfl,W⟩ | ⟨I,rfl,W⟩⟩;rotate_left
 ·exact absurd ((Yu0 (n:=5) (a:=2) (k:=3) q41_ q41_ q41_ q41_ V).2 q41_) I
 obtain ⟨A5,d5,rfl,-⟩:=W;rw [Zh7];replace h:=hid (Z0_ h.out (le_refl _) m);clear V I;clear q r s u v x;replace g:=hid (g.out.up m);replace j:=hid (j.out.up m);replace d:=hid (d.out.below m d.out.lt);replace c:=hid (c.out.below m c.out.lt);replace Hb0:=hid (Z0_ Hb0.out (le_refl _) m);clear m;have q:=c.out.cell 0;have r:=c.out.cell 1;have s:=c.out.cell 2;have u:=c.out.cell 3;have v:=c.out.cell 4;have x:=c.out.cell 5
 go_wp2_with fail
 refine (Zh6 E (unU 5 2) _ 2 _ (O9_ _ _ 0 5 2 0) (Zz3 ..) g.out q41_ q41_ (G2_ q41_ q41_ q41_)).mono ?_;rintro e w6 ⟨c6,u6,x6,y6,M,o,⟨J,rfl,X⟩ | ⟨J,rfl,X⟩⟩
 skip
 ·exact absurd ((Yu0 (n:=5) (a:=2) (k:=2) q41_ q41_ q41_ q41_ M).1 J) q41_
 have Z:=(evb_u q41_ q41_ M).2 rfl;obtain ⟨A6,d6,rfl,-⟩:=X;rw [Z];replace h:=hid (Z0_ h.out (le_refl _) o);clear M J Z;clear q r s u v x;replace g:=hid (g.out.up o);replace j:=hid (j.out.up o);replace d:=hid (d.out.below o d.out.lt);replace c:=hid (c.out.below o c.out.lt);replace Hb0:=hid (Z0_ Hb0.out (le_refl _) o);clear o;have q:=c.out.cell 0;have r:=c.out.cell 1;have s:=c.out.cell 2;have u:=c.out.cell 3;have v:=c.out.cell 4;have x:=c.out.cell 5
 go_wp2_with fail
 refine (Yb5 (unU 5 2) _ 9 _ (O9_ _ _ 0 5 2 0) (.inr q41_)).mono ?_;rintro e w7 ⟨rfl,p⟩;replace h:=hid (Z0_ h.out (le_refl _) p);clear q r s u v x;replace g:=hid (g.out.up p);replace j:=hid (j.out.up p);replace d:=hid (d.out.below p d.out.lt);replace c:=hid (c.out.below p c.out.lt);replace Hb0:=hid (Z0_ Hb0.out (le_refl _) p);clear p;have q3:=x7.out w7 h.out;have x0:u4.length≤5:=Yw3 R.out;have x8:=hid x0;clear x0
 go_wp2_with fail
 refine (Y6_ _ u4 _ j.out (by have:=x8.out;omega) (K8_ R.out.1)).mono ?_;rintro e w8 ⟨rfl,T⟩;replace Hb0:=hid (Z0_ Hb0.out (le_refl _) T);clear T q3;exact q3_
end Go.Proofs.YtigobiacbficaaaGreatDoor.Wp
