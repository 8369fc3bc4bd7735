/- The document's Classes and Bound of layer 16, walked, where they hold (written by gen_urcls.py). -/
import Derived.Test.YtheeajnkiniopaaGreatDoorURMay
import Derived.Test.YtheeajnkiniopaaGreatDoorVIndep
import Derived.Test.YtheeajnkiniopaaGreatDoorX0A
import Derived.Test.YtheeajnkiniopaaGreatDoorX0B
set_option maxHeartbeats 16000000
set_option maxRecDepth 100000
open Go.Lib (hid)
namespace Go.Proofs.YtheeajnkiniopaaGreatDoor.Wp
open Go Go.RowKit
theorem Vo9 {n:Nat} {u:List Int} (h:InN n u):okA (n:Int) u=true:=by
 unfold okA;rw [K5_ h.1,Bool.true_and,Bool.or_eq_true,decide_eq_true_iff,decide_eq_true_iff];rcases Nat.eq_zero_or_pos u.length with c | c
 ·exact .inl c
 ·refine .inr (h.2 _ ?_).2
  rw [show u.getD (u.length - 1) 0=u[u.length - 1] by simp [List.getD,List.getElem?_eq_getElem (show u.length - 1<u.length by omega)]];exact z26_
theorem Xn6 (E:Nat→Addr) (ms:List Mat) (vl vu:Value) (u:List Int) (w:World) (hl:MatL w w.heap.size vl ms) (hs:∀ m∈ms,Sml m) (d:Row w w.heap.size vu u) (c:sevB ms=true) (o:InN (nN (ms.getD 0 default)) u):Calls Tryz.prog 17 #[vl,vu] w (Tells w (B1_ ms u)):=by
 have K:=hid hl;have L:=hid d;have O:=hid hs;have p:=hid (sev_iff.1 c).1;obtain ⟨Z,xj⟩:=p.out.many;obtain ⟨ad,dl,xq,xp,rfl,_,V⟩:=MatL.one hl Z;obtain ⟨Au,cu,rfl,-⟩:=id d;obtain ⟨D,xd⟩:=p.out.may 0 Z;have xc:=p.out.n64;have xf:=Y7_ o;obtain ⟨n,hn⟩:∃ n,nN (ms.getD 0 default)=n:=⟨_,rfl⟩;have H:(ms.getD 0 default).n=(n:Int):=by have:=Y0_ D;omega
 have X:ad.add (0 * 6)=ad:=x43_;have C:Hid (∀ W,Below w.heap.size w W→W.cell? ⟨ad.block,ad.off+1,none⟩=some (.int .i64 n)):=hid fun W hW=>by
  have h:=(V W hW).2.1;rw [X,H] at h;exact h
 have x4:okA (n:Int) u=true:=Vo9 (by rw [← hn];exact o);have x8:=hid x4;have Hm:=hid c;have g:∀ k,k<ms.length→0≤rankT (ms.getD k default) u∧rankT (ms.getD k default) u≤64:=fun k v=>by
  obtain ⟨P,a2⟩:=p.out.may k v;have a3:=(rk_of P).le_cnt (memP u);have a4:=A3_ (memP u) (nN (ms.getD k default));rw [Yv7 (mayI_iff.2 ⟨P,by rw [a2];exact o⟩)];omega
 have N:=hid g;have x9:Hid (B1_ ms u=(n:Int) - (u.length:Int)+Q8_ ms u ms.length):=hid (by
  unfold B1_;rw [if_pos (by rw [c,mayI_iff.2 ⟨D,o⟩];rfl),H])
 have xa:Hid (∀ k:Nat,k≤ms.length→0≤Q8_ ms u k∧Q8_ ms u k≤64 * (k:Int)):=hid (by
  intro k
  induction k with
  | zero=>intro _;exact ⟨Int.le_refl _,Int.le_refl _⟩
  | succ k ih =>
   intro v;have i1:=ih q40_;have i2:=N.out k q40_;show 0≤Q8_ ms u k+rankT (ms.getD k default) u∧Q8_ ms u k+rankT (ms.getD k default) u≤_;omega)
 have xm:(u.length:Int)≤(n:Int):=q40_;have xl:(n:Int)≤64:=q40_;have xk:(ms.length:Int)≤8:=q40_;have xi:(0:Int)<(ms.length:Int):=q40_;have xn:IntKind.i64.wrap ((n:Int) - (u.length:Int))=(n:Int) - (u.length:Int):=k40_;rw [x9.out];clear hl d hs V D xd xf hn H X x4 c o g xc;have q1:=C.out w (Below.refl _ _)
 go_enter Tryz.func17,Tryz.ntmps17
 go_wp2_with fail
 refine (P7_ E ms _ _ K.out O.out q40_).mono ?_;rintro e w1 ⟨rfl,R⟩;rw [Hm.out];have s:=hid R;clear R q1;have q1:=C.out w1 s.out
 go_wp2_with fail
 refine (D7_ _ u n _ (L.out.up s.out)).mono ?_;rintro e w2 ⟨rfl,S⟩;rw [x8.out];have B:=hid (Z0_ s.out (Nat.le_refl _) S);clear S q1 s;have q1:=C.out w2 B.out
 go_wp2_with fail
 go_loopw [5,6] (fun vn J wr=>∃ (k:Nat) (z:Int),J=.int .i64 k∧vn=.int .i64 z∧z=(n:Int) - (u.length:Int)+Q8_ ms u k∧k≤ms.length∧Below w.heap.size w wr) (fun _ J _=>ms.length - (intOf J).toNat)
 case atStart=>exact ⟨0,_,rfl,x41_,by show _=_+(0:Int);omega,Nat.zero_le _,B.out⟩
 case round =>
  clear B q1;obtain ⟨k,z,rfl,rfl,hz,v,U⟩:=hrel;have j:=hid U;have q:=hid hz;clear U hz;by_cases x:k<ms.length
  ·have xg:(k:Int)<(ms.length:Int):=by omega
   obtain ⟨xb,d2,lv,iv,Q,G,F⟩:=MatL.one K.out x;obtain rfl:ad=xb:=Option.some.inj (Value.slice.inj Q).1;have x0:ms.getD k default∈ms:=by rw [List.getD_eq_getElem?_getD,List.getElem?_eq_getElem x];exact List.getElem_mem x
   have I:=O.out _ x0;have g:=N.out k x;have xe:=xa.out k v;have y:Q8_ ms u (k+1)=Q8_ ms u k+rankT (ms.getD k default) u:=rfl;obtain ⟨m,c⟩:∃ m,ms.getD k default=m:=⟨_,rfl⟩;rw [c] at G F I g y;obtain ⟨q0,q1,q2,q3,q4,q5⟩:=F wr j.out;have M:=hid (Xn5 m _ _ u wr (G.up j.out) I (L.out.up j.out));obtain ⟨r,d⟩:∃ r,rankT m u=r:=⟨_,rfl⟩;rw [d] at M g y;have xo:IntKind.i64.wrap (z+r)=z+r:=by rw [IntKind.wrap_i64];have:=q.out;omega
   have x7:=hid y;clear Q x0 I g xe y c G F d
   go_wp2_with fail
   refine M.out.mono ?_;rintro e w3 ⟨rfl,T⟩;have x5:=hid (Z0_ j.out (Nat.le_refl _) T);clear T q0 q1 q2 q3 q4 q5;go_wp2
   go_roundw
   case rel=>exact ⟨k+1,z+r,x41_,x41_,by have:=q.out;have:=x7.out;omega,q40_,x5.out⟩
   exact mz_
  ·have Y:k=ms.length:=by omega
   have xh:¬ (k:Int)<(ms.length:Int):=q40_;have x6:Hid (z=(n:Int) - (u.length:Int)+Q8_ ms u ms.length):=hid (by rw [← Y];exact q.out);clear Y q;go_wp2;go_ret;exact ⟨by rw [x6.out];rfl,j.out⟩
end Go.Proofs.YtheeajnkiniopaaGreatDoor.Wp
