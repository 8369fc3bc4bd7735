/- The document's times, parts, Pack and Cover of layer 17, walked (written by gen_ubref.py). -/
import Derived.Test.YtigobiacbficaaaGreatDoorUBFx
import Derived.Test.YtigobiacbficaaaGreatDoorVI10C
import Derived.Test.YtigobiacbficaaaGreatDoorURMax
import Derived.Test.YtigobiacbficaaaGreatDoorX0A
import Derived.Test.YtigobiacbficaaaGreatDoorX0B
set_option maxHeartbeats 16000000
set_option maxRecDepth 100000
open Go.Lib (hid)
open Nat (le_refl)
namespace Go.Proofs.YtigobiacbficaaaGreatDoor.Wp
private theorem x44_ {P:Prop} (h:P:=by simp [results,Tryz.results8,go_sem]):P:=h
private theorem z44_ {P:Prop} (h:P:=by simp [results,Tryz.results6,go_sem]):P:=h
private theorem y46_ {P:Prop} (h:P:=by simp [results,Tryz.results9,go_sem]):P:=h
private theorem j46_ {P:Prop} (h:P:=by simp [results,Tryz.results7,go_sem]):P:=h
open Go Go.RowKit
theorem Ym9 (v:Value) (c:List Int) (q:Int) (w:World) (e:Row w w.heap.size v c) (hl:c.length≤1048576):Calls Tryz.prog 22 #[v,.int .i64 q] w (GivesF w (Z3_ c q)):=by
 have HR:=hid e;obtain ⟨A,d,rfl,_⟩:=id e;have m:(c.length:Int)≤1048576:=y40_;clear e
 go_enter Tryz.func22,Tryz.ntmps22
 go_wp2
 go_loopw [5,6] (fun k h wr=>∃ j:Nat,h=.int .i64 j∧j≤c.length∧wr.ownsRow w.heap.size 3 1 k (clsTo c q j).length (ints (clsTo c q j))∧Below w.heap.size w wr) (fun _ h _=>c.length - (intOf h).toNat)
 case atStart=>exact ⟨0,rfl,Nat.zero_le _,World.ownsRow_made w #[] 0 (le_refl _) z41_ rfl,(Below.refl _ w).alloc (le_refl _) _⟩
 case round =>
  exact j34_
theorem Xd0 (c:List Int) (i:Nat):setsK c (i+1)=setsK c i ++ [Z3_ c (i:Int)]:=by
 unfold setsK;rw [List.range_succ,List.map_append];rfl
theorem Zv4 (c:List Int) (i:Nat):(setsK c i).length=i:=by simp [setsK]
theorem RowO.of_new {w:World} {b:Nat} {o:Option Nat} {v:Value} {zs:List Int} (h:Row w w.heap.size v zs) (j:∀ g,v.ownBlock=some g→b≤g) (r:∀ g,o=some g→g<b) (x:∀ d,v.ownBlock=some d→True):RowO w o v zs:=by
 obtain ⟨A,c,rfl,q,m⟩:=h;refine ⟨A,c,rfl,q,fun k p=>?_⟩;obtain ⟨d,rfl,h2,f⟩:=m k p;refine ⟨d,rfl,h2,fun e=>?_,f⟩;have s:=r _ e.symm;have u:=j d.block rfl;omega
theorem Vf7 {m:Mat} {k:Nat} {c u:List Int} (g:1≤k) (h:k≤8) (hc:chk m=0) (o:MaxU (List.replicate k m) (nN m) c u):(c.length:Int) - ((Z3_ c (-1)).length:Int)≤(k:Int) * rankT m (allL m.n):=by
 have j:=J1_ g h hc;obtain ⟨r,p,q,e⟩:=Zz6 j o;have s:=Y0_ hc;have d:=Ym8 (n:=nN m) y40_;have f:=e _ d.1;rw [d.2,show ((nN m:Nat):Int)=m.n by omega,Zw4] at f;rw [(E8_ hc).1,← Int.natCast_mul];omega
theorem Zo2 (m:Mat) (v:Value) (k:Nat) (w:World) (Q:MatV w w.heap.size v m) (hk:k≤1000):Calls Tryz.prog 21 #[v,.int .i64 k] w fun e w'=>∃ u,e=.returned u∧MatL w' w'.heap.size u (List.replicate k m)∧Below w.heap.size w w':=by
 obtain ⟨lv,iv,xg,xf,xe⟩:=Q.open;have H:=hid (Z1_ w m lv iv);have V:=hid (Q.up H.out);have J:=hid (Z4_ w m lv iv);obtain ⟨d,cl,rfl,-⟩:=xf;obtain ⟨c,o,rfl,-⟩:=xe;subst xg;obtain ⟨X,hX⟩:∃ X,boxed w m (.slice d m.l.length cl) (.slice c m.i.length o)=X:=⟨_,rfl⟩;have x:X.heap.size=w.heap.size+1:=z47_;rw [hX] at H V J;have Z:=hid hX;unfold boxed at Z;have xi:(k:Int)≤1000:=y40_;obtain ⟨B,L⟩:∃ B,w.heap.size+1=B:=⟨_,rfl⟩;obtain ⟨Y,y⟩:∃ Y,X.alloc (.cells #[] 25)=Y:=⟨_,rfl⟩;rw [L] at x;have G:=hid x;have x5:Below X.heap.size X Y:=by rw [← y];exact (Below.refl _ X).alloc (le_refl _) _
 have x0:=hid x5;have x4:Hid (Y.ownsRow B 25 6 (.slice (some ⟨B,0,none⟩) 0 0) 0 (flat6 (fun _=>[.nilIface,.nilIface,.nilIface,.nilIface,.nilIface,.nilIface]) 0)):=hid (by
  have h:=World.ownsRow_made (base:=X.heap.size) (e := 25) (size:=6) X #[] 0 (le_refl _) z41_ rfl;rw [y,x] at h;exact h)
 have T:Hid (SixM Y B (fun _=>[.nilIface,.nilIface,.nilIface,.nilIface,.nilIface,.nilIface]) (List.replicate 0 m)):=hid ⟨fun _=>rfl,fun j p=>absurd p k40_⟩;have HY:=hid y;have HB:=hid L;clear Q hX x L y x5 hk
 go_enter Tryz.func21,Tryz.ntmps21
 go_wp2;rw [Z.out,HY.out,HB.out]
 go_loopw [5,6] (fun vo R wr=>∃ (i:Nat) (S:Nat→List Value),R=.int .i64 i∧i≤k∧wr.ownsRow B 25 6 vo i (flat6 S i)∧SixM wr B S (List.replicate i m)∧Below X.heap.size X wr) (fun _ R _=>k - (intOf R).toNat)
 case atStart=>exact ⟨0,_,j41_,Nat.zero_le _,x4.out,T.out,x0.out⟩
 case round =>
  clear x4 T x0;obtain ⟨i,S,rfl,xh,x9,hS,x7⟩:=hrel;have E:=hid x9;have F:=hid hS;have q:=hid x7;clear x9 hS x7;have D:Hid (B≤wr.heap.size):=hid (by have:=q.out.size;have:=G.out;omega);by_cases xj:i<k
  ·have xk:(i:Int)<(k:Int):=by omega
   have x8:MatV wr B (.agg #[.int .i64 m.t,.int .i64 m.n,.int .i64 m.a,.int .i64 m.b,.slice d m.l.length cl,.slice c m.i.length o]) m:=by
    have h:=V.out.bel q.out
    rwa [G.out] at h
   obtain ⟨S',M,N⟩:=F.out.more _ _ _ _ _ _ m x8;rw [← List.replicate_succ'] at M;rw [List.length_replicate] at N;have g:=hid (J.out.below q.out J.out.lt);have c0:=g.out.cell 0;have c1:=g.out.cell 1;have c2:=g.out.cell 2;have c3:=g.out.cell 3;have c4:=g.out.cell 4;have c5:=g.out.cell 5;obtain ⟨W1,r⟩:∃ W1,W1=wr.alloc (.cells #[.int .i64 m.t,.int .i64 m.n,.int .i64 m.a,.int .i64 m.b,.slice d m.l.length cl,.slice c m.i.length o] 25):=⟨_,rfl⟩;have W:=hid r;have z:Below wr.heap.size wr W1:=by rw [r];exact (Below.refl _ wr).alloc (le_refl _) _
   have s:=hid (I6_ E.out z);have I:Hid (Below X.heap.size X W1):=hid (Z0_ q.out (le_refl _) z);have U:=hid (M.below (by rw [r];exact (Below.refl B wr).alloc D.out _:Below B wr W1));have x6:Blk W1 wr.heap.size 25 #[.int .i64 m.t,.int .i64 m.n,.int .i64 m.a,.int .i64 m.b,.slice d m.l.length cl,.slice c m.i.length o]:=by rw [r];exact Blk.new wr _ _
   have x1:Hid (∀ K,some (⟨wr.heap.size,0,none⟩:Addr)=some K→∀ j u,[Value.int .i64 m.t,.int .i64 m.n,.int .i64 m.a,.int .i64 m.b,.slice d m.l.length cl,.slice c m.i.length o][j]?=some u→W1.cell? (K.add j)=some u):=hid fun K e j u p=>by
    obtain rfl:=Option.some.inj e;have e2:(⟨wr.heap.size,0,none⟩:Addr).add j=⟨wr.heap.size,j,none⟩:=j44_;rw [e2,x6.cell j];simpa using p
   have x3:Hid (∀ u∈[Value.int .i64 m.t,.int .i64 m.n,.int .i64 m.a,.int .i64 m.b,.slice d m.l.length cl,.slice c m.i.length o],u.oneCell'=true):=hid fun u hu=>q23_;have C:=hid (Nat.le_trans D.out z.size);have x2:=hid N;have Hi:=hid (show i≤1048576 by omega);clear x8 M N r z x6 F E g
   go_wp2_with (at_builtin;rw [← W.out];refine Zz5 rfl _ _ rfl B i 1 _ (flat6 S i) [.int .i64 m.t,.int .i64 m.n,.int .i64 m.a,.int .i64 m.b,.slice d m.l.length cl,.slice c m.i.length o] (some ⟨wr.heap.size,0,none⟩) 1 rfl rfl s.out rfl x1.out x3.out (fun e=>by cases e) Hi.out y40_ C.out ?_)
   intro v' W2 P O;rw [← x2.out] at P;have xb:=hid (I.out.grown O I.out.size (fun j p=>by have:=(s.out.lt j p).1;have:=G.out;omega));have xd:=hid P;have xa:=hid (U.out.below ((Below.refl B _).grown O C.out fun j p=>(s.out.lt j p).1));clear P O s U I x1 x3 W x2 C q c0 c1 c2 c3 c4 c5;go_wp2
   go_roundw
   case rel=>exact ⟨i+1,S',j41_,y40_,xd.out,xa.out,xb.out⟩
   exact mz_
  ·obtain rfl:i=k:=by omega
   have HM:=hid (Yl4 (i:=List.replicate i m) (by rw [List.length_replicate];exact E.out) F.out D.out);have xc:=hid (Z0_ H.out (le_refl _) q.out);go_wp2;go_ret;exact ⟨_,rfl,HM.out,xc.out⟩
theorem Zo3 (v:Value) (c:List Int) (k:Nat) (w:World) (s:Row w w.heap.size v c) (hl:c.length≤1000) (T:k≤1000):Calls Tryz.prog 25 #[v,.int .i64 k] w fun e w'=>∃ u,e=.returned u∧Rows2 w' w'.heap.size u (setsK c k)∧Below w.heap.size w w':=by
 have O:=hid s;have R:=hid (show c.length≤1048576 by omega);have x1:(k:Int)≤1000:=y40_;obtain ⟨A,Y,rfl,-⟩:=id s;have z:=hid (OwnR.new w w.heap.size w.heap.size (le_refl _) rfl);have C:=hid ((Below.refl w.heap.size w).alloc (le_refl _) (.cells #[] 28));clear s hl T
 go_enter Tryz.func25,Tryz.ntmps25
 go_wp2
 go_loopw [5,6] (fun V x wr=>∃ i:Nat,x=.int .i64 i∧i≤k∧Hid (OwnR wr w.heap.size V (setsK c i))∧Hid (Below w.heap.size w wr)) (fun _ x _=>k - (intOf x).toNat)
 case atStart=>exact ⟨0,j41_,Nat.zero_le _,z,C⟩
 case round =>
  clear z C;obtain ⟨i,rfl,x0,d,g⟩:=hrel;obtain ⟨x4,U⟩:=OwnR.nameU d.out;subst U;by_cases x2:i<k
  ·have x3:(i:Int)<(k:Int):=by omega
   go_wp2_with fail
   refine (Ym9 _ c i _ (O.out.up g.out) R.out).mono ?_;rintro e K ⟨vk,rfl,J,q,G⟩;have p:=hid (RowO.of_new J G (OwnR.lt2U d.out) (fun _ _=>trivial));obtain ⟨y,D,rfl,-⟩:=J;have B:=hid (d.out.below q);have m:=hid (Z0_ g.out (le_refl _) q);have o:=hid (Xd0 c i);have r:=Zv4 c i;obtain ⟨Z,F⟩:∃ Z,Z3_ c (i:Int)=Z:=⟨_,rfl⟩;rw [F] at p o ⊢;have N:=hid (ListO.one (W:=K) K.heap.size rfl p.out);have h:=hid (B.out.upA (.cells #[.slice y Z.length D] 28));have j:=hid (m.out.alloc m.out.size (.cells #[.slice y Z.length D] 28));obtain ⟨P,E⟩:∃ P,setsK c i=P:=⟨_,rfl⟩;rw [E] at h o r;have S:=hid r;clear B m p d g E F r q G
   go_wp2_with (at_builtin;go_loud (refine C5_ (by first | rfl | (simp [Region.wanted,yielded,go_sem];omega)) _ _ rfl _ _ _ P [Z] rfl rfl h.out N.out j.out.size (by rw [S.out];simp;omega) ?_))
   intro v3 X I H;have L:=hid I;have M:=hid (j.out.grown H j.out.size h.out.lt);clear I H;go_wp2
   go_roundw
   case rel=>exact ⟨i+1,j41_,y40_,by rw [o.out];exact L,M⟩
   exact mz_
  ·obtain rfl:i=k:=by omega
   have Q:=hid d.out.rows;go_wp2;go_ret;exact ⟨_,rfl,Q.out,g.out⟩
theorem Xt3 (m:Mat) (v:Value) (k:Int) (w:World) (h:MatV w w.heap.size v m) (hs:Sml m) (q:may17 m k=false) :
  Calls Tryz.prog 7 #[v,.int .i64 k] w fun e w'=>e=.returned (.tuple #[.slice none 0 0,.slice none 0 0,.int .i64 1])∧Below w.heap.size w w':=by
 have B:=hid hs;have z:=hid q;clear q;obtain ⟨s,r,G,F,E⟩:=h.open;have d:=hid (Z1_ w m s r);have j:=hid (h.up d.out);have c:=hid (Z4_ w m s r);obtain ⟨x,cl,rfl,-⟩:=F;obtain ⟨u,D,rfl,-⟩:=E;subst G;obtain ⟨X,g⟩:∃ X,boxed w m (.slice x m.l.length cl) (.slice u m.i.length D)=X:=⟨_,rfl⟩;rw [g] at d j c;have o:=hid g;unfold boxed at o;have C:=c.out.cell 0;have c1:=c.out.cell 1;have c2:=c.out.cell 2;have c3:=c.out.cell 3;have c4:=c.out.cell 4;have c5:=c.out.cell 5;clear h g hs
 go_enter Tryz.func7,Tryz.ntmps7
 go_wp2_with fail
 rw [o.out];refine (R0_ m _ k X j.out B.out).mono ?_;rintro e H ⟨rfl,p⟩;rw [z.out];have y:=hid (Z0_ d.out (le_refl _) p);clear p C c1 c2 c3 c4 c5;go_wp2;refine bodyPost_ret (v:=.tuple #[.slice none 0 0,.slice none 0 0,.int .i64 1]) j46_ rfl ?_;exact ⟨rfl,y.out⟩
theorem Xd1 (m:Mat) (v:Value) (k:Int) (w:World) (h:MatV w w.heap.size v m) (hs:Sml m) (q:may17 m k=false) :
  Calls Tryz.prog 9 #[v,.int .i64 k] w fun e w'=>e=.returned (.tuple #[.slice none 0 0,.slice none 0 0,.int .i64 1])∧Below w.heap.size w w':=by
 have B:=hid hs;have z:=hid q;clear q;obtain ⟨s,r,G,F,E⟩:=h.open;have d:=hid (Z1_ w m s r);have j:=hid (h.up d.out);have c:=hid (Z4_ w m s r);obtain ⟨x,cl,rfl,-⟩:=F;obtain ⟨u,D,rfl,-⟩:=E;subst G;obtain ⟨X,g⟩:∃ X,boxed w m (.slice x m.l.length cl) (.slice u m.i.length D)=X:=⟨_,rfl⟩;rw [g] at d j c;have o:=hid g;unfold boxed at o;have C:=c.out.cell 0;have c1:=c.out.cell 1;have c2:=c.out.cell 2;have c3:=c.out.cell 3;have c4:=c.out.cell 4;have c5:=c.out.cell 5;clear h g hs
 go_enter Tryz.func9,Tryz.ntmps9
 go_wp2_with fail
 rw [o.out];refine (R0_ m _ k X j.out B.out).mono ?_;rintro e H ⟨rfl,p⟩;rw [z.out];have y:=hid (Z0_ d.out (le_refl _) p);clear p C c1 c2 c3 c4 c5;go_wp2;refine bodyPost_ret (v:=.tuple #[.slice none 0 0,.slice none 0 0,.int .i64 1]) y46_ rfl ?_;exact ⟨rfl,y.out⟩
theorem Xt4 (E:Nat→Addr) (m:Mat) (v:Value) (k:Nat) (w:World) (K:MatV w w.heap.size v m) (hs:Sml m) (V:Env E w) (G:1≤k) (H:k≤8) (hc:chk m=0) :
  Calls Tryz.prog 9 #[v,.int .i64 k] w fun e w'=>∃ (c u:List Int) (vl L:Value),MaxU (List.replicate k m) (nN m) c u∧Below w.heap.size w w' ∧
   (((c.length:Int) - ((Z3_ c (-1)).length:Int)=m.n∧e=.returned (.tuple #[vl,.slice none 0 0,.int .i64 0])∧Rows2 w' w'.heap.size vl (setsK c k))∨(¬ (c.length:Int) - ((Z3_ c (-1)).length:Int)=m.n∧e=.returned (.tuple #[.slice none 0 0,L,.int .i64 171])∧Row w' w'.heap.size L u)):=by
 have U:=hid hs;have S:Hid (may17 m k=true):=hid (by unfold may17;simp [hc];omega);obtain ⟨lv,iv,xl,xj,xg⟩:=K.open;have g:=hid (Z1_ w m lv iv);have h:=hid (K.up g.out);have j:=hid (V.up g.out);have d:=hid (Z4_ w m lv iv);obtain ⟨Al,cl,rfl,-⟩:=xj;obtain ⟨Ai,ci,rfl,-⟩:=xg;subst xl;obtain ⟨X,J⟩:∃ X,boxed w m (.slice Al m.l.length cl) (.slice Ai m.i.length ci)=X:=⟨_,rfl⟩;rw [J] at g h j d;have D:=hid J;unfold boxed at D;clear K hs V J;have Hc:=hid hc;have y:=hid (⟨G,H⟩:1≤k∧k≤8);have xf:=hid (show sevB (List.replicate k m)=true by rw [Zh4 G H,hc];rfl);have x9:Hid (∀ x∈List.replicate k m,Sml x):=hid fun x hx=>by rw [List.eq_of_mem_replicate hx];exact U.out
 have xn:(k:Int)≤8:=y40_;obtain ⟨x3,x4,x5⟩:=E8_ hc;obtain ⟨R,W⟩:∃ R:Nat,rkP 4 m (memP (allL m.n))=R:=⟨_,rfl⟩;rw [W] at x3 x4;have x2:=Y0_ hc;have T:=hid x2;have F:=hid x5;have o:=d.out.cell 0;have c1:=d.out.cell 1;have c2:=d.out.cell 2;have c3:=d.out.cell 3;have c4:=d.out.cell 4;have c5:=d.out.cell 5;clear x3 x4 x5 W hc G H x2
 go_enter Tryz.func9,Tryz.ntmps9
 go_wp2_with fail
 rw [D.out];refine (R0_ m _ k X h.out U.out).mono ?_;rintro e w2 ⟨rfl,q⟩;rw [S.out];clear o c1 c2 c3 c4 c5;replace h:=hid (h.out.up q);replace j:=hid (j.out.up q);replace d:=hid (d.out.below q d.out.lt);replace g:=hid (Z0_ g.out (le_refl _) q);clear q S D;have o:=d.out.cell 0;have c1:=d.out.cell 1;have c2:=d.out.cell 2;have c3:=d.out.cell 3;have c4:=d.out.cell 4;have c5:=d.out.cell 5
 go_wp2_with fail
 refine (Zo2 m _ k w2 h.out (by have:=y.out;omega)).mono ?_;rintro e w3 ⟨vt,rfl,x0,r⟩;have O:=hid x0;clear o c1 c2 c3 c4 c5;replace h:=hid (h.out.up r);replace j:=hid (j.out.up r);replace d:=hid (d.out.below r d.out.lt);replace g:=hid (Z0_ g.out (le_refl _) r);clear r x0
 go_wp2_with fail
 refine (Yd4 E (List.replicate k m) _ _ O.out x9.out xf.out).mono ?_;rintro e w4 ⟨vc,L,c,u,rfl,x6,x7,s,B⟩;rw [Yt9 y.out.1] at B;have P:=hid B;have N:=hid x6;have Q:=hid x7;have xk:=(Zz6 (J1_ y.out.1 y.out.2 Hc.out) B).1;have Hl:=hid (show c.length≤1000 by have:=F.out;omega);have xe:=hid (show c.length≤1048576 by have:=F.out;omega);have Z:m.n=(c.length:Int)∧(c.length:Int)≤64:=by have:=T.out;have:=F.out;omega
 have xi:=P4_ c (-1);obtain ⟨Ac,cc,rfl,-⟩:=x6;obtain ⟨z,I⟩:∃ z,(Z3_ c (-1)).length=z:=⟨_,rfl⟩;rw [I] at xi;have C:=hid I;replace h:=hid (h.out.up s);replace j:=hid (j.out.up s);replace d:=hid (d.out.below s d.out.lt);replace g:=hid (Z0_ g.out (le_refl _) s);obtain ⟨n0,x1⟩:∃ n0,m.n=n0:=⟨_,rfl⟩;have xm:=hid x1;clear B x7 xk s I O x1;obtain ⟨Au,cu,rfl,-⟩:=id Q.out;have o:=d.out.cell 0;have c1:=d.out.cell 1;have c2:=d.out.cell 2;have c3:=d.out.cell 3;have c4:=d.out.cell 4;have c5:=d.out.cell 5
 go_wp2_with fail
 refine (D7_ _ c (-1) _ N.out xe.out).mono ?_;rintro e w7 ⟨vk,rfl,xh,p⟩;obtain ⟨Ak,ck,rfl,-⟩:=xh;rw [C.out];clear o c1 c2 c3 c4 c5;by_cases hq:z=0
 ·subst hq
  have M:=hid p;clear p
  go_wp2_with fail
  refine (Zo3 _ c k w7 (N.out.up M.out) Hl.out y40_).mono ?_;rintro e w8 ⟨us,rfl,x8,Y⟩;have xb:=hid x8;have xd:=hid (Z0_ g.out (le_refl _) (Z0_ M.out (le_refl _) Y));clear x8 Y;go_wp2;refine bodyPost_ret (v:=.tuple #[us,.slice none 0 0,.int .i64 0]) y46_ rfl ?_;exact ⟨c,u,us,.slice none 0 0,P.out,xd.out,.inl ⟨by have:=T.out;have:=Z.1;have:=C.out;omega,rfl,xb.out⟩⟩
 ·have xo:(0:Int)<(z:Int):=by omega
  have xc:=hid (Z0_ g.out (le_refl _) p);have xa:=hid (Q.out.up p);clear p;go_wp2;refine bodyPost_ret (v:=.tuple #[.slice none 0 0,.slice Au u.length cu,.int .i64 171]) y46_ rfl ?_;exact ⟨c,u,.slice none 0 0,_,P.out,xc.out,.inr ⟨by have:=Z.1;have:=C.out;omega,rfl,xa.out⟩⟩
theorem Vf8 (E:Nat→Addr) (m:Mat) (v:Value) (k:Nat) (w:World) (hv:MatV w w.heap.size v m) (hs:Sml m) (hE:Env E w) (h1:1≤k) (O:k≤8) (hc:chk m=0) :
  Calls Tryz.prog 7 #[v,.int .i64 k] w fun e w'=>∃ (c u:List Int) (vl y:Value),MaxU (List.replicate k m) (nN m) c u∧Below w.heap.size w w' ∧
   (((c.length:Int) - ((Z3_ c (-1)).length:Int)=(k:Int) * rankT m (allL m.n)∧e=.returned (.tuple #[vl,.slice none 0 0,.int .i64 0])∧Rows2 w' w'.heap.size vl (setsK c k))∨(¬ (c.length:Int) - ((Z3_ c (-1)).length:Int)=(k:Int) * rankT m (allL m.n)∧e=.returned (.tuple #[.slice none 0 0,y,.int .i64 170])∧Row w' w'.heap.size y u)):=by
 have Hs:=hid hs;have Hm:Hid (may17 m k=true):=hid (by unfold may17;simp [hc];omega);obtain ⟨lv,iv,y5,y1,xy⟩:=hv.open;have p:=hid (Z1_ w m lv iv);have o:=hid (hv.up p.out);have s:=hid (hE.up p.out);have d:=hid (Z4_ w m lv iv);obtain ⟨G,cl,rfl,-⟩:=y1;obtain ⟨F,I,rfl,-⟩:=xy;subst y5;obtain ⟨X,hX⟩:∃ X,boxed w m (.slice G m.l.length cl) (.slice F m.i.length I)=X:=⟨_,rfl⟩;rw [hX] at p o s d;have Z:=hid hX;unfold boxed at Z;clear hv hs hE hX;have Hc:=hid hc;have B:=hid (⟨h1,O⟩:1≤k∧k≤8);have xw:=hid (show sevB (List.replicate k m)=true by rw [Zh4 h1 O,hc];rfl);have xp:Hid (∀ x∈List.replicate k m,Sml x):=hid fun x hx=>by rw [List.eq_of_mem_replicate hx];exact Hs.out
 have y8:(k:Int)≤8:=y40_;obtain ⟨S,xj,xk⟩:=E8_ hc;obtain ⟨R,hR⟩:∃ R:Nat,rkP 4 m (memP (allL m.n))=R:=⟨_,rfl⟩;rw [hR] at S xj;have xz:k * R≤8 * 64:=Nat.mul_le_mul O y40_;obtain ⟨z,hz0⟩:∃ z:Int,(k:Int) * (R:Int)=z:=⟨_,rfl⟩;have hw:IntKind.i64.wrap ((k:Int) * (R:Int))=z:=k24_;have y9:0≤z∧z≤512:=by
  have:((k * R:Nat):Int)=z:=by rw [Int.natCast_mul];exact hz0
  omega
 have hz:(k:Int) * rankT m (allL m.n)=z:=by rw [S];exact hz0
 have HZ:=hid hz;have xv:=hid S;have xx:=D4_ m.n;have xo:=hid (D5_ m.n);clear hz0 hz xz;have xi:=Y0_ hc;have Hn:=hid xi;have x2:=hid xk;have c0:=d.out.cell 0;have c1:=d.out.cell 1;have c2:=d.out.cell 2;have c3:=d.out.cell 3;have c4:=d.out.cell 4;have c5:=d.out.cell 5;clear S xj xk hR hc h1 O xi
 go_enter Tryz.func7,Tryz.ntmps7
 go_wp2_with fail
 rw [Z.out];refine (R0_ m _ k X o.out Hs.out).mono ?_;rintro e w2 ⟨rfl,J⟩;rw [Hm.out];clear c0 c1 c2 c3 c4 c5;replace o:=hid (o.out.up J);replace s:=hid (s.out.up J);replace d:=hid (d.out.below J d.out.lt);replace p:=hid (Z0_ p.out (le_refl _) J);clear J Hm Z;have c0:=d.out.cell 0;have c1:=d.out.cell 1;have c2:=d.out.cell 2;have c3:=d.out.cell 3;have c4:=d.out.cell 4;have c5:=d.out.cell 5
 go_wp2_with fail
 refine (Zo2 m _ k w2 o.out (by have:=B.out;omega)).mono ?_;rintro e w3 ⟨vt,rfl,xh,K⟩;have HM:=hid xh;clear c0 c1 c2 c3 c4 c5;replace o:=hid (o.out.up K);replace s:=hid (s.out.up K);replace d:=hid (d.out.below K d.out.lt);replace p:=hid (Z0_ p.out (le_refl _) K);clear K xh
 go_wp2_with fail
 refine (Yd4 E (List.replicate k m) _ _ HM.out xp.out xw.out).mono ?_;rintro e r ⟨vc,y,c,u,rfl,xl,xm,L,P⟩;rw [Yt9 B.out.1] at P;have V:=hid P;have HC:=hid xl;have HU:=hid xm;have y3:=(Zz6 (J1_ B.out.1 B.out.2 Hc.out) P).1;have Hl:=hid (show c.length≤1000 by have:=x2.out;omega);have xc:=hid (show c.length≤1048576 by have:=x2.out;omega);have xg:m.n=(c.length:Int)∧(c.length:Int)≤64:=by have:=Hn.out;have:=x2.out;omega
 have y0:=P4_ c (-1);obtain ⟨Ac,cc,rfl,-⟩:=xl;obtain ⟨C,x3⟩:∃ C,(Z3_ c (-1)).length=C:=⟨_,rfl⟩;rw [x3] at y0;have H:=hid x3;replace o:=hid (o.out.up L);replace s:=hid (s.out.up L);replace d:=hid (d.out.below L d.out.lt);replace p:=hid (Z0_ p.out (le_refl _) L);clear P xm y3 L x3 HM;obtain ⟨j,D⟩:∃ j,m.n=j:=⟨_,rfl⟩;have y6:IntKind.i64.wrap (j - (C:Int))=j - (C:Int):=y41_;obtain ⟨q,hq⟩:∃ q,j - (C:Int)=q:=⟨_,rfl⟩;have x4:(c.length:Int) - (C:Int)=q:=by rw [← hq,← D,xg.1]
 have xd:=hid x4;have y2:=Vf7 (m:=m) (k:=k) B.out.1 B.out.2 Hc.out V.out;rw [HZ.out,H.out,x4] at y2;rw [hq] at y6;have y7:=hid D;have x8:Hid (∀ (v T:Value) (W:World),MatV W W.heap.size v m→Row W W.heap.size T (allL j)→Calls Tryz.prog 23 #[v,T] W (Tells W (R:Int))):=hid fun v T W a b=>by
  rw [← D] at b;have h:=Xs7 m v T _ W a Hs.out b;rw [xv.out] at h;exact h
 have x6:Hid (∀ W,Calls Tryz.prog 24 #[.int .i64 j] W (Gives W (allL j))):=hid fun W=>D5_ j W;have M:=(Below.refl r.heap.size r).drew;have x9:=hid (o.out.up M);have U:=hid (HC.out.up M);have xr:=hid (HU.out.up M);have xb:=hid (p.out.drew);have x0:=hid (d.out.below M d.out.lt);have g:Hid (Below r.drew.heap.size r.drew r.drew):=hid (Below.refl _ _);have K1:Hid (∀ W,Below r.drew.heap.size r.drew W→W.cell? ⟨w.heap.size,0,none⟩=some (.int .i64 m.t)∧W.cell? ⟨w.heap.size,1,none⟩=some (.int .i64 j)∧W.cell? ⟨w.heap.size,2,none⟩=some (.int .i64 m.a)∧W.cell? ⟨w.heap.size,3,none⟩=some (.int .i64 m.b)∧W.cell? ⟨w.heap.size,4,none⟩=some (.slice G m.l.length cl)∧W.cell? ⟨w.heap.size,5,none⟩=some (.slice F m.i.length I)):=hid fun W hW=>by
  have h:=x0.out.below hW x0.out.lt;rw [D] at h;exact x23_
 have xe:MatV r.drew r.drew.heap.size (.agg #[.int .i64 m.t,.int .i64 j,.int .i64 m.a,.int .i64 m.b,.slice G m.l.length cl,.slice F m.i.length I]) m:=by rw [← D];exact x9.out
 have xa:=hid xe;clear xe x9 o s d p HU HC xo xx D x4 x0 xg M;by_cases Q:q=z
 ·have x1:=hid Q
  have y4:¬ q<z:=y40_;clear Q;go_wp2
  go_region_held3 (fun W=>W.cell? ⟨w.heap.size,0,none⟩=some (.int .i64 m.t)∧W.cell? ⟨w.heap.size,1,none⟩=some (.int .i64 j)∧W.cell? ⟨w.heap.size,2,none⟩=some (.int .i64 m.a)∧W.cell? ⟨w.heap.size,3,none⟩=some (.int .i64 m.b)∧W.cell? ⟨w.heap.size,4,none⟩=some (.slice G m.l.length cl)∧W.cell? ⟨w.heap.size,5,none⟩=some (.slice F m.i.length I))
   (exact K1.out _ g.out)
   (first
   | (go_at_call 22;refine (D7_ _ c (-1) _ (U.out.up g.out) xc.out).mono ?_;rintro e w5 ⟨v5,rfl,x5,hb⟩;replace g:=hid (Z0_ g.out (le_refl _) hb);obtain ⟨Ak,ck,rfl,-⟩:=x5;rw [H.out];clear hb)
   | (go_at_call 24;refine (x6.out _).mono ?_;rintro e w6 ⟨v6,rfl,N,hb⟩;replace g:=hid (Z0_ g.out (le_refl _) hb);have Y:=hid N;clear N hb)
   | (go_at_call 23;refine (x8.out _ _ _ (xa.out.up g.out) Y.out).mono ?_;rintro e w7 ⟨rfl,hb⟩;replace g:=hid (Z0_ g.out (le_refl _) hb);clear hb))
  all_goals
   go_simp;have x7:=g
   go_wp2_with fail
   refine (Zo3 _ c k _ (U.out.up x7.out) Hl.out y40_).mono ?_;rintro e w8 ⟨us,rfl,xn,xf⟩;have xs:=hid xn;have xu:=hid (Z0_ xb.out (le_refl _) (Z0_ x7.out (le_refl _) xf));clear xn xf;go_wp2;refine bodyPost_ret (v:=.tuple #[us,.slice none 0 0,.int .i64 0]) j46_ rfl ?_;exact ⟨c,u,us,y,V.out,xu.out,.inl ⟨by rw [H.out,HZ.out,xd.out];exact x1.out,rfl,xs.out⟩⟩
 ·have x1:=hid Q
  have y4:q<z:=y40_;clear Q;go_wp2
  go_region_held3 (fun W=>W.cell? ⟨w.heap.size,0,none⟩=some (.int .i64 m.t)∧W.cell? ⟨w.heap.size,1,none⟩=some (.int .i64 j)∧W.cell? ⟨w.heap.size,2,none⟩=some (.int .i64 m.a)∧W.cell? ⟨w.heap.size,3,none⟩=some (.int .i64 m.b)∧W.cell? ⟨w.heap.size,4,none⟩=some (.slice G m.l.length cl)∧W.cell? ⟨w.heap.size,5,none⟩=some (.slice F m.i.length I))
   (exact K1.out _ g.out)
   (first
   | (go_at_call 22;refine (D7_ _ c (-1) _ (U.out.up g.out) xc.out).mono ?_;rintro e w5 ⟨v5,rfl,x5,hb⟩;replace g:=hid (Z0_ g.out (le_refl _) hb);obtain ⟨Ak,ck,rfl,-⟩:=x5;rw [H.out];clear hb)
   | (go_at_call 24;refine (x6.out _).mono ?_;rintro e w6 ⟨v6,rfl,N,hb⟩;replace g:=hid (Z0_ g.out (le_refl _) hb);have Y:=hid N;clear N hb)
   | (go_at_call 23;refine (x8.out _ _ _ (xa.out.up g.out) Y.out).mono ?_;rintro e w7 ⟨rfl,hb⟩;replace g:=hid (Z0_ g.out (le_refl _) hb);clear hb))
  all_goals
   go_simp;have xt:=hid (Z0_ xb.out (le_refl _) g.out);have xq:=hid (xr.out.up g.out);go_wp2;refine bodyPost_ret (v:=.tuple #[.slice none 0 0,y,.int .i64 170]) j46_ rfl ?_;exact ⟨c,u,y,y,V.out,xt.out,.inr ⟨fun h=>by rw [H.out,HZ.out,xd.out] at h;have:=x1.out;omega,rfl,xq.out⟩⟩
theorem Xt5 (E:Nat→Addr) (m:Mat) (v:Value) (k:Nat) (w:World) (h:MatV w w.heap.size v m) (hs:Sml m) (q:Env E w) (D:1≤k) (F:k≤8) (hc:chk m≠0) :
  Calls Tryz.prog 6 #[v,.int .i64 k] w fun e w'=>e=.returned (.tuple #[.slice none 0 0,.slice none 0 0,.int .i64 1])∧Below w.heap.size w w':=by
 have B:=hid hs;obtain ⟨u,s,I,H,G⟩:=h.open;have d:=hid (Z1_ w m u s);have o:=hid (h.up d.out);have j:=hid (q.up d.out);have c:=hid (Z4_ w m u s);obtain ⟨y,cl,rfl,-⟩:=H;obtain ⟨x,C,rfl,-⟩:=G;subst I;obtain ⟨X,g⟩:∃ X,boxed w m (.slice y m.l.length cl) (.slice x m.i.length C)=X:=⟨_,rfl⟩;rw [g] at d o j c;have p:=hid g;unfold boxed at p;have J:=c.out.cell 0;have c1:=c.out.cell 1;have c2:=c.out.cell 2;have c3:=c.out.cell 3;have c4:=c.out.cell 4;have c5:=c.out.cell 5;clear h g hs q
 go_enter Tryz.func6,Tryz.ntmps6
 go_wp2_with fail
 rw [p.out];refine (Zq3 E m _ k X o.out B.out j.out D F hc).mono ?_;rintro e K ⟨rfl,r⟩;have z:=hid (Z0_ d.out (le_refl _) r);clear r hc;go_wp2;refine bodyPost_ret (v:=.tuple #[.slice none 0 0,.slice none 0 0,.int .i64 1]) z44_ rfl ?_;exact ⟨rfl,z.out⟩
theorem Xd2 (E:Nat→Addr) (m:Mat) (v:Value) (k:Nat) (w:World) (h:MatV w w.heap.size v m) (hs:Sml m) (q:Env E w) (D:1≤k) (F:k≤8) (hc:chk m≠0) :
  Calls Tryz.prog 8 #[v,.int .i64 k] w fun e w'=>e=.returned (.tuple #[.slice none 0 0,.slice none 0 0,.int .i64 1])∧Below w.heap.size w w':=by
 have B:=hid hs;obtain ⟨u,s,I,H,G⟩:=h.open;have d:=hid (Z1_ w m u s);have o:=hid (h.up d.out);have j:=hid (q.up d.out);have c:=hid (Z4_ w m u s);obtain ⟨y,cl,rfl,-⟩:=H;obtain ⟨x,C,rfl,-⟩:=G;subst I;obtain ⟨X,g⟩:∃ X,boxed w m (.slice y m.l.length cl) (.slice x m.i.length C)=X:=⟨_,rfl⟩;rw [g] at d o j c;have p:=hid g;unfold boxed at p;have J:=c.out.cell 0;have c1:=c.out.cell 1;have c2:=c.out.cell 2;have c3:=c.out.cell 3;have c4:=c.out.cell 4;have c5:=c.out.cell 5;clear h g hs q
 go_enter Tryz.func8,Tryz.ntmps8
 go_wp2_with fail
 rw [p.out];refine (Zq3 E m _ k X o.out B.out j.out D F hc).mono ?_;rintro e K ⟨rfl,r⟩;have z:=hid (Z0_ d.out (le_refl _) r);clear r hc;go_wp2;refine bodyPost_ret (v:=.tuple #[.slice none 0 0,.slice none 0 0,.int .i64 1]) x44_ rfl ?_;exact ⟨rfl,z.out⟩
end Go.Proofs.YtigobiacbficaaaGreatDoor.Wp
