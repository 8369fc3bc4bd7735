/- The program's sort and union of sets, walked. -/
import Derived.Test.YtigobiacbficaaaGreatDoorZA
import Derived.Test.YtigobiacbficaaaGreatDoorMShelf
import Derived.Test.YtigobiacbficaaaGreatDoorIGrow
import Derived.Sort.OwnSortedInts
import Derived.Lib.OwnBridge
import Derived.LoopN
import Derived.Test.YtigobiacbficaaaGreatDoorX0A
import Derived.Test.YtigobiacbficaaaGreatDoorX0B
set_option maxHeartbeats 4000000
set_option maxRecDepth 100000
open Go.Lib (hid)
namespace Go.Proofs.YtigobiacbficaaaGreatDoor.Wp
open Go.RowKit Go.Sort Go.Lib
theorem Vj5 (base:Nat) (v:Value) (zs:List Int) (w:World) (c:w.ownsRow base 3 1 v zs.length (ints zs)) (u:zs.length≤2097152) :
  Calls Tryz.prog 127 #[v] w fun e w'=>e=.returned (.tuple #[])∧w'.ownsRow base 3 1 v zs.length (ints (zs.mergeSort fun x y=>decide (x≤y)))∧w.grownBy w' v.ownBlock:=by
 rcases c.2 with ⟨rfl,j⟩ | ⟨g,d,s,rfl,p,hb,k,h2,h3,m⟩
 ·have q:zs=[]:=List.eq_nil_of_length_eq_zero j
  subst q;refine (Tryz.slices_Sort_int_none none 0 w).mono ?_;rintro e w' ⟨rfl,rfl⟩;refine ⟨rfl,?_,⟨rfl,rfl,rfl,Nat.le_refl _,fun _ _ _=>rfl⟩⟩;have e:([]:List Int).mergeSort (fun x y=>decide (x≤y))=[]:=k40_;rw [e];exact c
 ·have o:=holds_of_blockI (ss:=zs) hb (by simpa [ints] using m)
  refine (Tryz.slices_Sort_int g 0 d zs w o (Array.getElem?_eq_some_iff.1 hb).1 y40_).mono ?_;rintro e w' ⟨rfl,r,os,rfl⟩;refine ⟨rfl,?_,grownBy_sortedI _⟩;have h:=ownsRow_sortedI (n:=r) (os:=os) (ss:=zs) (ts:=zs.mergeSort fun x y=>decide (x≤y)) k40_ p hb k h2 h3;simpa [ints] using h
theorem Yi6 (base:Nat) (v:Value) (zs:List Int) (w:World) (c:w.ownsRow base 3 1 v zs.length (ints zs)) (y:zs.length≤2097152) :
  Calls Tryz.prog 128 #[v] w fun e w'=>∃ d,e=.returned d∧w'.ownsRow base 3 1 d (Lib.compact zs).length (ints (Lib.compact zs))∧w.grownBy w' v.ownBlock:=by
 rcases c.2 with ⟨rfl,m⟩ | ⟨g,j,u,rfl,x,hb,o,h2,h3,p⟩
 ·have s:zs=[]:=List.eq_nil_of_length_eq_zero m
  subst s;refine (Tryz.slices_Compact_int_empty none 0 w).mono ?_;rintro e w' ⟨rfl,rfl⟩;refine ⟨_,rfl,?_,⟨rfl,rfl,rfl,Nat.le_refl _,fun _ _ _=>rfl⟩⟩;have e:Lib.compact ([]:List Int)=[]:=by simp [Lib.compact,Lib.compactUpTo]
  rw [e];exact c
 ·have r:=holds_of_blockI (ss:=zs) hb (by simpa [ints] using p)
  refine (Tryz.slices_Compact_int g 0 j zs w r y40_ o).mono ?_;rintro e w' ⟨rfl,q,rfl⟩;have hc:(Lib.compact zs).length≤zs.length:=Lib.compact_length_le zs;refine ⟨_,rfl,?_,?_⟩
  ·have h:=Lib.ownsRow_putRow (q:=q) (k:=(Lib.compact zs).length) (ys:=Lib.compact zs ++ List.replicate (zs.length - (Lib.compact zs).length) 0) (enc:=Value.int .i64) (zs:=zs) c x41_ hc
   simpa [ints] using h
  ·exact q13_
def K0_ (l:List Int) (k:Nat):List Int:=(l.take k).filter fun x=>decide (Fit x)
theorem Xv6 (l:List Int) (k:Nat) (h:k<l.length) (c:Fit (l.getD k 0)):K0_ l (k+1)=K0_ l k ++ [l.getD k 0]:=by
 unfold K0_;rw [List.take_succ_eq_append_getElem h,List.filter_append];have e:l[k]=l.getD k 0:=k49_;rw [e];congr 1;rw [List.filter_cons,if_pos (by simpa using c)];rfl
theorem Xk3 (l:List Int) (k:Nat) (h:k<l.length) (c:¬ Fit (l.getD k 0)):K0_ l (k+1)=K0_ l k:=by
 unfold K0_;rw [List.take_succ_eq_append_getElem h,List.filter_append];have e:l[k]=l.getD k 0:=k49_;rw [e,List.filter_cons,if_neg (by simpa using c)];simp
theorem W3_ (l:List Int) (k:Nat):(K0_ l k).length≤l.length:=by
 unfold K0_;refine Nat.le_trans (List.length_filter_le _ _) ?_;simp;omega
theorem Xv7 (l:List Int):Lib.compact ((K0_ l l.length).mergeSort fun x y=>decide (x≤y))=sortL l:=by
 unfold K0_;rw [List.take_length];exact Zo9 l
theorem Ys1 (v:Value) (l:List Int) (w:World) (R:Row w w.heap.size v l) (hl:l.length≤2097152):Calls Tryz.prog 99 #[v] w (GivesF w (sortL l)):=by
 obtain ⟨A,c,rfl,_,C⟩:=R;have F:=hid C;clear C;have x0:(l.length:Int)≤2097152:=y40_;obtain ⟨V,d,S,T,U⟩:=info_parts info3;have p:=hid (Xv7 l)
 go_enter Tryz.func99,Tryz.ntmps99
 go_wp2
 go_loopw [3,8] (fun vs z wr=>∃ k:Nat,z=.int .i64 k∧k≤l.length∧wr.ownsRow w.heap.size 3 1 vs (K0_ l k).length (ints (K0_ l k))∧Below w.heap.size w wr) (fun _ z _=>l.length - (intOf z).toNat)
 case atStart=>exact ⟨0,rfl,Nat.zero_le _,World.ownsRow_nil _ _ _ _,Below.refl _ _⟩
 case round =>
  obtain ⟨k,rfl,Z,h,hbr⟩:=hrel;by_cases s:k<l.length
  ·obtain ⟨G,I,hab,hc⟩:=F.out k s
   subst I;have H:wr.cell? (G.add k)=some (.int .i64 (l.getD k 0)):=(hbr.cell x42_).trans hc;clear hc;have D:=W3_ l k;have m:=hid (Xv6 l k s);have j:=hid (Xk3 l k s);generalize l.getD k 0=x at H m j;by_cases hx:Fit x
   ·have r:=Zz9 x true q46_
    have q:=hid (m.out hx);clear m j
    go_wp2_with (first
     | (go_at_call 126;refine (r _).mono ?_;rintro e w' ⟨rfl,rfl⟩)
     | (at_builtin;refine wpList_append_own _ rfl _ _ 28 rfl w.heap.size 3 V (.int .i64 0) 1 8 z40_ d S T U rfl q41_ _ _ _ rfl (h.alloc _) ⟨w'.heap.size,0,none⟩ 1 1 [Value.int .i64 x] rfl rfl ?c1 ?c2 ?c3 ?c4 ?c5 ?_))
    case c1=>exact Yn9 _ _ _
    case c2=>exact Vl1 x
    case c3=>unfold maxLen;omega
    case c4=>omega
    case c5=>have:=hbr.size;simp;omega
    intro v' Y Q O _;have J:Below w.heap.size w Y:=(hbr.alloc hbr.size _).grown O x43_ (fun i d=>(h.lt i d).1);go_wp2
    go_roundw
    case rel=>exact ⟨k+1,j41_,y40_,by rw [q.out,V6_,List.length_append];exact Q,J⟩
    exact mz_
   ·have r:=Zz9 x false q46_
    have q:=hid (j.out hx);clear m j
    go_wp2_with (go_at_call 126;refine (r _).mono ?_;rintro e w' ⟨rfl,rfl⟩)
    go_roundw
    case rel=>exact ⟨k+1,j41_,y40_,by rw [q.out];exact h,hbr⟩
    exact mz_
  ·have P:k=l.length:=by omega
   subst P;have D:=W3_ l l.length;generalize K0_ l l.length=zs at h p D
   go_wp2_with fail
   refine (Vj5 w.heap.size _ zs _ h y40_).mono ?_;rintro e W ⟨rfl,o,M⟩;have B:Below w.heap.size w W:=hbr.grown M hbr.size (fun i d=>(h.lt i d).1);have E:(zs.mergeSort fun x y=>decide (x≤y)).length=zs.length:=k40_;rw [← E] at o;generalize (zs.mergeSort fun x y=>decide (x≤y))=ss at o p E
   go_wp2_with fail
   refine (Yi6 w.heap.size _ ss _ o y40_).mono ?_;rintro e X ⟨v3,rfl,u,N⟩;have K:Below w.heap.size w X:=B.grown N B.size (fun i d=>(o.lt i d).1);rw [p.out] at u;go_wp2;go_ret;exact ⟨_,rfl,Row.of_own u rfl,K,fun g L=>(u.lt g L).1⟩
theorem Vj6 (n:Nat) (w:World) (o:n≤4194304) :
  Calls Tryz.prog 166 #[.slice none 0 0,.int .i64 n] w fun e w'=>∃ v,e=.returned v∧w'.ownsRow w.heap.size 3 1 v 0 []∧Below w.heap.size w w':=by
 by_cases c:n=0
 ·subst c
  refine (Any8.slices_Grow_room Tryz.growI none 0 0 0 w y40_ y40_ y40_ y40_).mono ?_;rintro e w' ⟨rfl,rfl⟩;exact ⟨_,rfl,World.ownsRow_nil _ _ _ _,Below.refl _ _⟩
 ·obtain ⟨k,d,j,p,hz2⟩:=info_parts info3
  refine (Any8.slices_Grow_grow Tryz.growI k (.int .i64 0) d j y40_ none 0 0 n [] w y40_ y40_ x49_ y40_ k40_ (fun _=>rfl) (fun a h=>by cases h)).mono ?_;rintro e w' ⟨rfl,rfl⟩;refine ⟨_,rfl,?_,((Below.refl _ w).drew).alloc (Nat.le_refl _) _⟩;have m:0+n≤grownCap w (0+n) 0 3 := grownCap_ge w _ _ _;have hM:grownCap w (0+n) 0 3 ≤ maxLen:=grownCap_le_maxLen w _ _ _ z41_;refine World.ownsRow_made w.drew _ _ (Nat.le_refl _) hM ?_;show (Array.size (_ ++ _ ++ _))=_;have g:(Value.int IntKind.i64 0).cells.size=1:=rfl;rw [Array.size_append,Array.size_append,size_zeroCells,size_zeroCells,g];show 0+_+_=_;change 0+(0+n - 0) * 1+(grownCap w (0+n) 0 3 - (0+n)) * 1=grownCap w (0+n) 0 3 * 1;omega
theorem Xv8 (g:Nat) (r s:Value) (a b:List Int) (w:World) (h:Blk w g 28 #[r,s]) (ha:Row w w.heap.size r a) (hb:Row w w.heap.size s b) (M:a.length≤1048576) (O:b.length≤1048576) :
  Calls Tryz.prog 141 #[.slice (some ⟨g,0,none⟩) 2 2] w (Gives w (a ++ b)):=by
 have y:=hid ha;have k:=hid hb;obtain ⟨v,c1,rfl,_⟩:=ha;obtain ⟨x,c2,rfl,_⟩:=hb;have m:=h.lt;have q0:=h.cell 0;have q1:=h.cell 1;simp only [List.getElem?_toArray,List.getElem?_cons_zero,List.getElem?_cons_succ] at q0 q1;have N:(a.length:Int)≤1048576:=y40_;have P:(b.length:Int)≤1048576:=y40_;obtain ⟨n,o⟩:∃ n:Nat,n=a.length+b.length:=⟨_,rfl⟩;have hs:(a.length:Int)+(b.length:Int)=(n:Int):=y40_;have Q:(n:Int)≤2097152:=y40_;have L:=hid o;clear o;have K:=hid h;clear h
 go_enter Tryz.func141,Tryz.ntmps141
 go_wp2;refine wp_loop_rounds 3 ?_;rw [rounds_succ];go_wp2;rw [rounds_succ];go_wp2;rw [rounds_succ]
 go_wp2_with fail
 refine (Vj6 n w y40_).mono ?_;rintro e H ⟨S,rfl,p,c⟩;have z:=hid (y.out.below c);have J:=hid (k.out.below c);have G:H.cell? ⟨g,0,none⟩=some (.slice v a.length c1):=(c.cell m).trans q0;clear q0;go_wp2;refine wp_loop_rounds 3 ?_;rw [rounds_succ]
 go_wp2_with (at_builtin;refine Z5_ rfl _ _ rfl w.heap.size w.heap.size _ _ [] a rfl rfl p z.out k40_ y40_ c.size ?_)
 intro T u q D;have d:Below w.heap.size w u:=c.grown D c.size (fun i j=>(p.lt i j).1);have B:=hid (k.out.below d);have R:u.cell? ⟨g,1,none⟩=some (.slice x b.length c2):=(d.cell m).trans q1;clear q1 G;go_wp2;rw [rounds_succ]
 go_wp2_with (at_builtin;refine Z5_ rfl _ _ rfl w.heap.size w.heap.size _ _ a b rfl rfl q B.out y40_ y40_ d.size ?_)
 intro U I F E;have C:Below w.heap.size w I:=d.grown E d.size (fun i j=>(q.lt i j).1);go_wp2;rw [rounds_succ];go_wp2;go_ret;exact ⟨_,rfl,Row.of_own F k40_,C⟩
theorem Xk4 (r s:Value) (a b:List Int) (w:World) (ha:Row w w.heap.size r a) (hb:Row w w.heap.size s b) (y:a.length≤1048576) (z:b.length≤1048576) :
  Calls Tryz.prog 109 #[r,s] w (GivesF w (Y1_ a b)):=by
 have d:=hid ha;have j:=hid hb;obtain ⟨m,c1,rfl,_⟩:=ha;obtain ⟨o,c2,rfl,_⟩:=hb;rcases hma:mayB a with _ | _
 ·have Hr:=hid (Yy0 (b:=b) hma)
  go_enter Tryz.func109,Tryz.ntmps109
  go_wp2_with fail
  refine (may_any _ a w d.out y40_).mono ?_;exact z19_
 ·rcases hmb:mayB b with _ | _
  ·have Hr:=hid (Yy1 (a:=a) hmb)
   go_enter Tryz.func109,Tryz.ntmps109
   go_wp2_with fail
   refine (may_any _ a w d.out y40_).mono ?_;rintro e w1 ⟨rfl,hb1⟩;rw [hma]
   go_wp2_with fail
   refine (may_any _ b w1 ((j.out.below hb1).mono hb1.size) y40_).mono ?_;exact j15_
  ·have Hr:=hid (Yz9 hma hmb)
   go_enter Tryz.func109,Tryz.ntmps109
   go_wp2_with fail
   refine (may_any _ a w d.out y40_).mono ?_;rintro e w1 ⟨rfl,hb1⟩;rw [hma]
   go_wp2_with fail
   refine (may_any _ b w1 ((j.out.below hb1).mono hb1.size) y40_).mono ?_;rintro e w2 ⟨rfl,hb2⟩;rw [hmb];have p:Below w.heap.size w w2:=hb1.trans (hb2.mono hb1.size);clear hb1 hb2;have c:=p.alloc p.size (.cells #[.slice m a.length c1,.slice o b.length c2] 28)
   go_wp2_with fail
   have h:w.heap.size≤(w2.alloc (.cells #[.slice m a.length c1,.slice o b.length c2] 28)).heap.size:=c.size;refine (Xv8 _ _ _ a b _ (Blk.new w2 _ _) ((d.out.below c).mono h) ((j.out.below c).mono h) y z).mono ?_;rintro e u ⟨D,rfl,B,q⟩;have k:Below w.heap.size w u:=c.trans (q.mono h);clear q c h
   go_wp2_with fail
   refine (Ys1 D (a ++ b) u B (by rw [List.length_append];omega)).mono ?_;rintro e F ⟨E,rfl,C,v,x⟩;go_wp2;go_ret;exact ⟨_,rfl,by rw [Hr.out];exact C,k.trans (v.mono k.size),fun g hg=>Nat.le_trans k.size (x g hg)⟩
theorem Yj8 (c d:Value) (a b:List Int) (w:World) (ha:Row w w.heap.size c a) (hb:Row w w.heap.size d b) (e:a.length≤1048576) (g:b.length≤1048576) :
  Calls Tryz.prog 109 #[c,d] w (Gives w (Y1_ a b)):=(Xk4 c d a b w ha hb e g).mono fun _ _ h=>h.gives
end Go.Proofs.YtigobiacbficaaaGreatDoor.Wp
