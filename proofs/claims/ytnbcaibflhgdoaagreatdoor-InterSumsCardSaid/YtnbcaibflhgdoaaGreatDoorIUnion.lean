/- The program's sort and union of sets, walked. -/
import Derived.Test.YtnbcaibflhgdoaaGreatDoorZA
import Derived.Test.YtnbcaibflhgdoaaGreatDoorMShelf
import Derived.Test.YtnbcaibflhgdoaaGreatDoorIGrow
import Derived.Sort.OwnSortedInts
import Derived.Lib.OwnBridge
import Derived.LoopN
import Derived.Test.YtnbcaibflhgdoaaGreatDoorX0A
import Derived.Test.YtnbcaibflhgdoaaGreatDoorX0B
set_option maxHeartbeats 4000000
set_option maxRecDepth 100000
open Go.Lib (hid)
namespace Go.Proofs
open Go.RowKit Go.Sort Go.Lib
namespace YtnbcaibflhgdoaaGreatDoor.Wp
theorem Xq2 (base:Nat) (v:Value) (zs:List Int) (w:World) (c:w.ownsRow base 3 1 v zs.length (ints zs)) (u:zs.length≤2097152) :
  Calls Tryz.prog 84 #[v] w fun e w'=>e=.returned (.tuple #[])∧w'.ownsRow base 3 1 v zs.length (ints (zs.mergeSort fun x y=>decide (x≤y)))∧w.grownBy w' v.ownBlock:=by
 rcases c.2 with ⟨rfl,j⟩ | ⟨g,d,s,rfl,q,hb,k,m,h3,o⟩
 ·have r:zs=[]:=List.eq_nil_of_length_eq_zero j
  subst r;refine (Tryz.slices_Sort_int_none none 0 w).mono ?_;rintro e w' ⟨rfl,rfl⟩;refine ⟨rfl,?_,⟨rfl,rfl,rfl,Nat.le_refl _,fun _ _ _=>rfl⟩⟩;have e:([]:List Int).mergeSort (fun x y=>decide (x≤y))=[]:=x30_;rw [e];exact c
 ·have p:=holds_of_blockI (ss:=zs) hb (by simpa [ints] using o)
  refine (Tryz.slices_Sort_int g 0 d zs w p (Array.getElem?_eq_some_iff.1 hb).1 j29_).mono ?_;rintro e w' ⟨rfl,nn,os,rfl⟩;refine ⟨rfl,?_,grownBy_sortedI _⟩;have h:=ownsRow_sortedI (n:=nn) (os:=os) (ss:=zs) (ts:=zs.mergeSort fun x y=>decide (x≤y)) x30_ q hb k m h3;simpa [ints] using h
theorem Zp9 (base:Nat) (v:Value) (zs:List Int) (w:World) (c:w.ownsRow base 3 1 v zs.length (ints zs)) (z:zs.length≤2097152) :
  Calls Tryz.prog 85 #[v] w fun e w'=>∃ d,e=.returned d∧w'.ownsRow base 3 1 d (Lib.compact zs).length (ints (Lib.compact zs))∧w.grownBy w' v.ownBlock:=by
 rcases c.2 with ⟨rfl,m⟩ | ⟨g,j,u,rfl,y,hb,o,x,h3,p⟩
 ·have s:zs=[]:=List.eq_nil_of_length_eq_zero m
  subst s;refine (Tryz.slices_Compact_int_empty none 0 w).mono ?_;rintro e w' ⟨rfl,rfl⟩;refine ⟨_,rfl,?_,⟨rfl,rfl,rfl,Nat.le_refl _,fun _ _ _=>rfl⟩⟩;have e:Lib.compact ([]:List Int)=[]:=by simp [Lib.compact,Lib.compactUpTo]
  rw [e];exact c
 ·have r:=holds_of_blockI (ss:=zs) hb (by simpa [ints] using p)
  refine (Tryz.slices_Compact_int g 0 j zs w r j29_ o).mono ?_;rintro e w' ⟨rfl,q,rfl⟩;have hc:(Lib.compact zs).length≤zs.length:=Lib.compact_length_le zs;refine ⟨_,rfl,?_,?_⟩
  ·have h:=Lib.ownsRow_putRow (q:=q) (k:=(Lib.compact zs).length) (ys:=Lib.compact zs ++ List.replicate (zs.length - (Lib.compact zs).length) 0) (enc:=Value.int .i64) (zs:=zs) c j30_ hc
   simpa [ints] using h
  ·exact k8_
def F4_ (l:List Int) (k:Nat):List Int:=(l.take k).filter fun x=>decide (Fit x)
theorem Ya9 (l:List Int) (k:Nat) (h:k<l.length) (c:Fit (l.getD k 0)):F4_ l (k+1)=F4_ l k ++ [l.getD k 0]:=by
 unfold F4_;rw [List.take_succ_eq_append_getElem h,List.filter_append];have e:l[k]=l.getD k 0:=by simp [List.getD,h]
 rw [e];congr 1;rw [List.filter_cons,if_pos (by simpa using c)];rfl
theorem Yn8 (l:List Int) (k:Nat) (h:k<l.length) (c:¬ Fit (l.getD k 0)):F4_ l (k+1)=F4_ l k:=by
 unfold F4_;rw [List.take_succ_eq_append_getElem h,List.filter_append];have e:l[k]=l.getD k 0:=by simp [List.getD,h]
 rw [e,List.filter_cons,if_neg (by simpa using c)];simp
theorem N9_ (l:List Int) (k:Nat):(F4_ l k).length≤l.length:=by
 unfold F4_;refine Nat.le_trans (List.length_filter_le _ _) ?_;simp;omega
theorem Yb0 (l:List Int):Lib.compact ((F4_ l l.length).mergeSort fun x y=>decide (x≤y))=sortL l:=by
 unfold F4_;rw [List.take_length];exact Za6 l
theorem O0_ (v:Value) (l:List Int) (w:World) (O:Row w w.heap.size v l) (hl:l.length≤2097152):Calls Tryz.prog 52 #[v] w (Gives w (sortL l)):=by
 obtain ⟨A,c,rfl,_,z⟩:=O;have E:=hid z;clear z;have Y:(l.length:Int)≤2097152:=j29_;obtain ⟨S,d,P,Q,R⟩:=info_parts info3;have o:=hid (Yb0 l)
 go_enter Tryz.func52,Tryz.ntmps52
 go_wp2
 go_loopw [3,8] (fun T s wr=>∃ k:Nat,s=.int .i64 k∧k≤l.length∧wr.ownsRow w.heap.size 3 1 T (F4_ l k).length (ints (F4_ l k))∧Below w.heap.size w wr) (fun _ s _=>l.length - (intOf s).toNat)
 case atStart=>exact ⟨0,rfl,Nat.zero_le _,World.ownsRow_nil _ _ _ _,Below.refl _ _⟩
 case round =>
  obtain ⟨k,rfl,X,g,hbr⟩:=hrel;by_cases r:k<l.length
  ·obtain ⟨F,hA,hab,hc⟩:=E.out k r
   subst hA;have G:wr.cell? (F.add k)=some (.int .i64 (l.getD k 0)):=(hbr.cell x31_).trans hc;clear hc;have B:=N9_ l k;have j:=hid (Ya9 l k r);have h:=hid (Yn8 l k r);generalize l.getD k 0=x at G j h;by_cases hx:Fit x
   ·have q:=P0_ x true y34_
    have p:=hid (j.out hx);clear j h
    go_wp2_with (first
     | (go_at_call 83;refine (q _).mono ?_;rintro e w' ⟨rfl,rfl⟩)
     | (at_builtin;refine wpList_append_own _ rfl _ _ 26 rfl w.heap.size 3 S (.int .i64 0) 1 8 k29_ d P Q R rfl y30_ _ _ _ rfl (g.alloc _) ⟨w'.heap.size,0,none⟩ 1 1 [Value.int .i64 x] rfl rfl ?c1 ?c2 ?c3 ?c4 ?c5 ?_))
    case c1=>exact Xz7 _ _ _
    case c2=>exact Xi0 x
    case c3=>unfold maxLen;omega
    case c4=>omega
    case c5=>have:=hbr.size;simp;omega
    intro Z W N L _;have H:Below w.heap.size w W:=(hbr.alloc hbr.size _).grown L k32_ (fun i d=>(g.lt i d).1);go_wp2
    go_roundw
    case rel=>exact ⟨k+1,y31_,j29_,by rw [p.out,X8_,List.length_append];exact N,H⟩
    case measure=>simp [intOf];omega
   ·have q:=P0_ x false y34_
    have p:=hid (h.out hx);clear j h
    go_wp2_with (go_at_call 83;refine (q _).mono ?_;rintro e w' ⟨rfl,rfl⟩)
    go_roundw
    case rel=>exact ⟨k+1,y31_,j29_,by rw [p.out];exact g,hbr⟩
    case measure=>simp [intOf];omega
  ·have M:k=l.length:=by omega
   subst M;have B:=N9_ l l.length;generalize F4_ l l.length=zs at g o B
   go_wp2_with fail
   refine (Xq2 w.heap.size _ zs _ g j29_).mono ?_;rintro e U ⟨rfl,m,J⟩;have u:Below w.heap.size w U:=hbr.grown J hbr.size (fun i d=>(g.lt i d).1);have D:(zs.mergeSort fun x y=>decide (x≤y)).length=zs.length:=x30_;rw [← D] at m;generalize (zs.mergeSort fun x y=>decide (x≤y))=ss at m o D
   go_wp2_with fail
   refine (Zp9 w.heap.size _ ss _ m j29_).mono ?_;rintro e V ⟨v3,rfl,C,K⟩;have I:Below w.heap.size w V:=u.grown K u.size (fun i d=>(m.lt i d).1);rw [o.out] at C;go_wp2;go_ret;exact ⟨_,rfl,Row.of_own C rfl,I⟩
end YtnbcaibflhgdoaaGreatDoor.Wp
end Go.Proofs
namespace Go.Proofs.YtnbcaibflhgdoaaGreatDoor
open Go.RowKit
namespace Wp
theorem Xq3 (n:Nat) (w:World) (p:n≤4194304) :
  Calls Tryz.prog 110 #[.slice none 0 0,.int .i64 n] w fun e w'=>∃ v,e=.returned v∧w'.ownsRow w.heap.size 3 1 v 0 []∧Below w.heap.size w w':=by
 by_cases c:n=0
 ·subst c
  refine (Any8.slices_Grow_room Tryz.growI none 0 0 0 w j29_ j29_ j29_ j29_).mono ?_;rintro e w' ⟨rfl,rfl⟩;exact ⟨_,rfl,World.ownsRow_nil _ _ _ _,Below.refl _ _⟩
 ·obtain ⟨m,g,k,q,hz2⟩:=info_parts info3
  refine (Any8.slices_Grow_grow Tryz.growI m (.int .i64 0) g k j29_ none 0 0 n [] w j29_ j29_ j35_ j29_ x30_ (fun _=>rfl) (fun a h=>by cases h)).mono ?_;rintro e w' ⟨rfl,rfl⟩;refine ⟨_,rfl,?_,((Below.refl _ w).drew).alloc (Nat.le_refl _) _⟩;have o:0+n≤grownCap w (0+n) 0 3 := grownCap_ge w _ _ _;have d:grownCap w (0+n) 0 3 ≤ maxLen:=grownCap_le_maxLen w _ _ _ k31_;refine World.ownsRow_made w.drew _ _ (Nat.le_refl _) d ?_;show (Array.size (_ ++ _ ++ _))=_;have j:(Value.int IntKind.i64 0).cells.size=1:=rfl;rw [Array.size_append,Array.size_append,size_zeroCells,size_zeroCells,j];show 0+_+_=_;change 0+(0+n - 0) * 1+(grownCap w (0+n) 0 3 - (0+n)) * 1=grownCap w (0+n) 0 3 * 1;omega
theorem Yb1 (g:Nat) (r s:Value) (a b:List Int) (w:World) (h:Blk w g 26 #[r,s]) (ha:Row w w.heap.size r a) (hb:Row w w.heap.size s b) (M:a.length≤1048576) (O:b.length≤1048576) :
  Calls Tryz.prog 86 #[.slice (some ⟨g,0,none⟩) 2 2] w (Gives w (a ++ b)):=by
 have y:=hid ha;have k:=hid hb;obtain ⟨v,c1,rfl,_⟩:=ha;obtain ⟨x,c2,rfl,_⟩:=hb;have m:=h.lt;have q0:=h.cell 0;have q1:=h.cell 1;simp only [List.getElem?_toArray,List.getElem?_cons_zero,List.getElem?_cons_succ] at q0 q1;have N:(a.length:Int)≤1048576:=j29_;have P:(b.length:Int)≤1048576:=j29_;obtain ⟨n,o⟩:∃ n:Nat,n=a.length+b.length:=⟨_,rfl⟩;have hs:(a.length:Int)+(b.length:Int)=(n:Int):=j29_;have Q:(n:Int)≤2097152:=j29_;have L:=hid o;clear o;have K:=hid h;clear h
 go_enter Tryz.func86,Tryz.ntmps86
 go_wp2;refine wp_loop_rounds 3 ?_;rw [rounds_succ];go_wp2;rw [rounds_succ];go_wp2;rw [rounds_succ]
 go_wp2_with fail
 refine (Xq3 n w j29_).mono ?_;rintro e H ⟨S,rfl,p,c⟩;have z:=hid (y.out.below c);have J:=hid (k.out.below c);have G:H.cell? ⟨g,0,none⟩=some (.slice v a.length c1):=(c.cell m).trans q0;clear q0;go_wp2;refine wp_loop_rounds 3 ?_;rw [rounds_succ]
 go_wp2_with (at_builtin;refine Y8_ rfl _ _ rfl w.heap.size w.heap.size _ _ [] a rfl rfl p z.out x30_ j29_ c.size ?_)
 intro T u q D;have d:Below w.heap.size w u:=c.grown D c.size (fun i j=>(p.lt i j).1);have B:=hid (k.out.below d);have R:u.cell? ⟨g,1,none⟩=some (.slice x b.length c2):=(d.cell m).trans q1;clear q1 G;go_wp2;rw [rounds_succ]
 go_wp2_with (at_builtin;refine Y8_ rfl _ _ rfl w.heap.size w.heap.size _ _ a b rfl rfl q B.out j29_ j29_ d.size ?_)
 intro U I F E;have C:Below w.heap.size w I:=d.grown E d.size (fun i j=>(q.lt i j).1);go_wp2;rw [rounds_succ];go_wp2;go_ret;exact ⟨_,rfl,Row.of_own F x30_,C⟩
theorem Zz8 (q r:Value) (a b:List Int) (w:World) (ha:Row w w.heap.size q a) (hb:Row w w.heap.size r b) (v:a.length≤1048576) (x:b.length≤1048576) :
  Calls Tryz.prog 54 #[q,r] w (Gives w (Y7_ a b)):=by
 have d:=hid ha;have h:=hid hb;obtain ⟨j,c1,rfl,_⟩:=ha;obtain ⟨k,c2,rfl,_⟩:=hb;rcases hma:mayB a with _ | _
 ·have Hr:=hid (Yh0 (b:=b) hma)
  go_enter Tryz.func54,Tryz.ntmps54
  go_wp2_with fail
  refine (may_any _ a w d.out j29_).mono ?_;exact y19_
 ·rcases hmb:mayB b with _ | _
  ·have Hr:=hid (Yh1 (a:=a) hmb)
   go_enter Tryz.func54,Tryz.ntmps54
   go_wp2_with fail
   refine (may_any _ a w d.out j29_).mono ?_;rintro e w1 ⟨rfl,hb1⟩;rw [hma]
   go_wp2_with fail
   refine (may_any _ b w1 ((h.out.below hb1).mono hb1.size) j29_).mono ?_;exact z15_
  ·have Hr:=hid (Yg9 hma hmb)
   go_enter Tryz.func54,Tryz.ntmps54
   go_wp2_with fail
   refine (may_any _ a w d.out j29_).mono ?_;rintro e w1 ⟨rfl,hb1⟩;rw [hma]
   go_wp2_with fail
   refine (may_any _ b w1 ((h.out.below hb1).mono hb1.size) j29_).mono ?_;rintro e w2 ⟨rfl,hb2⟩;rw [hmb];have m:Below w.heap.size w w2:=hb1.trans (hb2.mono hb1.size);clear hb1 hb2;have c:=m.alloc m.size (.cells #[.slice j a.length c1,.slice k b.length c2] 26)
   go_wp2_with fail
   have g:w.heap.size≤(w2.alloc (.cells #[.slice j a.length c1,.slice k b.length c2] 26)).heap.size:=c.size;refine (Yb1 _ _ _ a b _ (Blk.new w2 _ _) ((d.out.below c).mono g) ((h.out.below c).mono g) v x).mono ?_;rintro e s ⟨B,rfl,y,p⟩;have o:Below w.heap.size w s:=c.trans (p.mono g);clear p c g
   go_wp2_with fail
   refine (O0_ B (a ++ b) s y (by rw [List.length_append];omega)).mono ?_;rintro e D ⟨C,rfl,z,u⟩;go_wp2;go_ret;exact ⟨_,rfl,by rw [Hr.out];exact z,o.trans (u.mono o.size)⟩
end Wp
end Go.Proofs.YtnbcaibflhgdoaaGreatDoor
