/- BasesTell, walked: it answers true (written by gen_ubtell.py). -/
import Derived.Test.YtigobiacbficaaaGreatDoorUBRef
import Derived.BigQuiet
import Derived.Deep.QuietTactic
import Derived.Test.YtigobiacbficaaaGreatDoorZS
import Derived.Test.YtigobiacbficaaaGreatDoorX0A
import Derived.Test.YtigobiacbficaaaGreatDoorX0B
set_option maxHeartbeats 16000000
set_option maxRecDepth 100000
open Go.Lib (hid)
open Nat (le_refl)
namespace Go.Proofs.YtigobiacbficaaaGreatDoor.Wp
open Go Go.RowKit
/-- Are two lists the same? -/
def sameB (a b : List Int) : Bool := decide (a = b)

theorem same_any (va vb : Value) (a b : List Int) (w : World) (ha : Row w w.heap.size va a) (hb : Row w w.heap.size vb b) (hla : a.length ≤ 1048576) (_hlb : b.length ≤ 1048576) :
    Calls Tryz.prog 11 #[va, vb] w fun e w' => e = .returned (.bool (sameB a b)) ∧ ∃ q, w' = w.drewN q := by
  obtain ⟨A, ca, rfl, _, hca⟩ := ha
  obtain ⟨A', cb, rfl, _, hcb⟩ := hb
  have Hca := Lib.hid hca
  have Hcb := Lib.hid hcb
  clear hca hcb
  by_cases hl : a.length = b.length
  · have hle : ((a.length : Int) != (b.length : Int)) = false := by rw [hl]; simp
    have Hl := Lib.hid hl
    clear hl
    go_enter Tryz.func11, Tryz.ntmps11
    go_wp2
    go_loopw [5] (fun vk wr => ∃ k q : Nat, vk = .int .i64 k ∧ wr = w.drewN q ∧ k ≤ a.length ∧ a.take k = b.take k) (fun vk _ => a.length - (intOf vk).toNat)
    case atStart => exact ⟨0, 0, rfl, rfl, Nat.zero_le _, rfl⟩
    case round =>
      obtain ⟨k, q, rfl, hwr, hk, htk⟩ := hrel
      have Hwr := Lib.hid hwr
      clear hwr
      have Htk := Lib.hid htk
      clear htk
      by_cases hlt : k < a.length
      · have hlt' : k < b.length := by have := Hl.out; omega
        obtain ⟨ad, hA, _, hc1⟩ := Hca.out k hlt
        obtain ⟨ad', hA', _, hc2⟩ := Hcb.out k hlt'
        subst hA hA'
        have d1 : wr.cell? (ad.add k) = some (.int .i64 (a.getD k 0)) := by rw [Hwr.out]; exact hc1
        have d2 : wr.cell? (ad'.add k) = some (.int .i64 (b.getD k 0)) := by rw [Hwr.out]; exact hc2
        have i1 : (k : Int) < (a.length : Int) := by omega
        have i2 : (k : Int) < (b.length : Int) := by omega
        have htk1 : ∀ l : List Int, k < l.length → l.take (k + 1) = l.take k ++ [l.getD k 0] := by
          intro l h
          rw [List.take_succ_eq_append_getElem h]
          simp [List.getD, h]
        have Hta := Lib.hid (htk1 a hlt)
        have Htb := Lib.hid (htk1 b hlt')
        clear htk1 hc1 hc2 Hca Hcb
        generalize a.getD k 0 = x at *
        generalize b.getD k 0 = y at *
        by_cases hxy : x = y
        · subst hxy
          go_wp2
          go_quiet (fail)
          go_wp2
          go_roundw
          case rel => exact ⟨k + 1, q + nq, by go_num, by rw [Hwr.out, World.drewN_drewN], by omega, by rw [Hta.out, Htb.out, Htk.out]⟩
          case measure => simp [intOf]; omega
        · have hne : (x != y) = true := by simpa using hxy
          have Hfin : Hid (sameB a b = false) := by
            show sameB a b = false
            unfold sameB
            rw [decide_eq_false_iff_not]
            intro h
            have h2 : a.take (k + 1) = b.take (k + 1) := by rw [h]
            rw [Hta.out, Htb.out, Htk.out] at h2
            have h3 := List.append_cancel_left h2
            simp at h3
            exact hxy h3
          clear hxy
          go_wp2
          go_quiet (fail)
          go_wp2
          go_ret
          refine ⟨?_, q + nq, by rw [Hwr.out, World.drewN_drewN]⟩
          rw [Hfin.out]
          rfl
      · have hke : k = a.length := by omega
        have Hfin : Hid (sameB a b = true) := by
          show sameB a b = true
          unfold sameB
          rw [decide_eq_true_iff]
          have h := Htk.out
          rw [hke, List.take_length] at h
          rw [h, Hl.out, List.take_length]
        subst hke
        go_wp2
        go_ret
        refine ⟨?_, q, Hwr.out⟩
        rw [Hfin.out]
        rfl
  · have hle : ((a.length : Int) != (b.length : Int)) = true := by
      rw [bne_iff_ne]; omega
    have Hfin : Hid (sameB a b = false) := by
      show sameB a b = false
      unfold sameB
      rw [decide_eq_false_iff_not]
      intro h
      exact hl (by rw [h])
    clear hl
    go_enter Tryz.func11, Tryz.ntmps11
    go_wp2
    go_ret
    refine ⟨?_, 0, rfl⟩
    rw [Hfin.out]
    rfl

theorem same_says (va vb : Value) (a b : List Int) (w : World) (ha : Row w w.heap.size va a) (hb : Row w w.heap.size vb b) (hla : a.length ≤ 1048576) (hlb : b.length ≤ 1048576) :
    Calls Tryz.prog 11 #[va, vb] w (Says w (sameB a b)) :=
  (same_any va vb a b w ha hb hla hlb).mono fun _ _ ⟨h1, q, h2⟩ => ⟨h1, by rw [h2]; exact Y2_ (Below.refl _ _) q⟩
theorem same_is (va vb : Value) (a b : List Int) (w : World) (ha : Row w w.heap.size va a) (hb : Row w w.heap.size vb b) (hla : a.length ≤ 1048576) (hlb : b.length ≤ 1048576) {x : Bool} (h : sameB a b = x) :
    Calls Tryz.prog 11 #[va, vb] w (Says w x) := by
  subst h
  exact same_says va vb a b w ha hb hla hlb
theorem M9_ (L M:Value) (pp:List (List Int)) (w:World) (ha:Rows2 w w.heap.size L pp) (hb:Rows2 w w.heap.size M pp) (hl:pp.length≤1000) (I:∀ i,i<pp.length→(pp.getD i []).length≤1000) :
  Calls Tryz.prog 10 #[L,M] w (Says w true):=by
 obtain ⟨Aa,ca,rfl,_,F⟩:=ha;obtain ⟨Ab,cb,rfl,_,G⟩:=hb;have T:=hid F;have U:=hid G;have V:=hid I;have x4:(pp.length:Int)≤1000:=y40_;have x5:((pp.length:Int) != (pp.length:Int))=false:=k40_;clear F G I
 go_enter Tryz.func10,Tryz.ntmps10
 go_wp2
 go_loopw [5,6] (fun o _ wr=>∃ i:Nat,o=.int .i64 (i:Int)∧i≤pp.length∧Hid (Below w.heap.size w wr)) (fun o _ _=>pp.length - (intOf o).toNat)
 case atStart=>exact ⟨0,rfl,Nat.zero_le _,hid (Below.refl _ _)⟩
 case round =>
  obtain ⟨i,rfl,x2,e⟩:=hrel;by_cases m:i<pp.length
  ·have x1:(i:Int)<(pp.length:Int):=by omega
   obtain ⟨al,u,d,halb,D,J⟩:=T.out i m;subst d;obtain ⟨s,u2,d,Z,E,K⟩:=U.out i m;subst d;have hq:=V.out i m;generalize pp.getD i []=q at *
   have R:=hid J;have S:=hid K;obtain ⟨N,X,rfl,_⟩:=J;obtain ⟨O,Y,rfl,_⟩:=K;have g:Hid (∀ W,Below w.heap.size w W→W.cell? (al.add i)=some (.slice N q.length X)∧W.cell? (s.add i)=some (.slice O q.length Y)):=hid fun W C=>⟨(C.cell (p:=al.add i) q47_).trans D,(C.cell (p:=s.add i) (by rw [Z2_];exact Z)).trans E⟩;have x6:((q.length:Int) != (q.length:Int))=false:=k40_;have x7:(q.length:Int)≤1000:=y40_;have x8:IntKind.i64.wrap ((i:Int)+1)=(i:Int)+1:=y41_;obtain ⟨v,x⟩:=g.out wr e.out;obtain ⟨y,B⟩:=g.out wr.drew e.out.drew;clear D E;go_wp2
   go_region
   all_goals
    have P:=hid e.out.drew;clear v x y B;go_wp2
    go_loopw [6] (fun r wr=>∃ k:Nat,r=.int .i64 (k:Int)∧k≤q.length∧Hid (Below w.heap.size w wr)) (fun r _=>q.length - (intOf r).toNat)
    case atStart=>exact ⟨0,rfl,Nat.zero_le _,P⟩
    case round =>
     obtain ⟨k,rfl,x3,c⟩:=hrel;obtain ⟨v,x⟩:=g.out wr c.out;obtain ⟨y,B⟩:=g.out wr.drew c.out.drew;by_cases H:k<q.length
     ·have x0:(k:Int)<(q.length:Int):=by omega
      obtain ⟨ar,d,h⟩:=Row.nthV R.out H;subst d;obtain ⟨br,d,j⟩:=Row.nthV S.out H;subst d;have e1:=h wr c.out;have e2:=h wr.drew c.out.drew;have e3:=j wr c.out;have e4:=j wr.drew c.out.drew;generalize q.getD k 0=z at *
      have hz:(z != z)=false:=k40_;have x9:IntKind.i64.wrap ((k:Int)+1)=(k:Int)+1:=y41_;clear h j;go_wp2
      go_region
      all_goals
       have Q:=hid c.out.drew;go_wp2
       go_roundw
       case rel=>exact ⟨k+1,j41_,y40_,Q⟩
       exact mz_
     ·have x0:¬ (k:Int)<(q.length:Int):=by omega
      go_wp2
      go_roundw
      case rel=>exact ⟨i+1,j41_,y40_,c⟩
      exact mz_
  ·have x1:¬ (i:Int)<(pp.length:Int):=by omega
   go_wp2;go_ret;exact ⟨rfl,e.out⟩
theorem Yz0 (u v:Value) (l:List Int) (W:World) (c:Row W W.heap.size u l) (h2:Row W W.heap.size v l) (hl:l.length≤1000):Calls Tryz.prog 11 #[u,v] W (Says W true) :=
 same_is u v l l W c h2 y40_ y40_ (by unfold sameB;simp)
def ToldB (m:Mat) (k:Int) (C:Nat→List Int→Prop) (code:Int) (P:List (List Int)) (Q:List Int) (x:Int):Prop :=
 (may17 m k=false∧P=[]∧Q=[]∧x=1)∨(may17 m k=true∧∃ (n:Nat) (c u:List Int),k=n∧MaxU (List.replicate n m) (nN m) c u∧((C n c∧P=setsK c n∧Q=[]∧x=0)∨(¬ C n c∧P=[]∧Q=u∧x=code)))
theorem I1_ {m:Mat} {k:Int} {C:Nat→List Int→Prop} {j:Int} {P f:List (List Int)} {Q g:List Int} {x o:Int} (h:ToldB m k C j P Q x) (d:ToldB m k C j f g o):f=P∧g=Q∧o=x:=by
 rcases h with ⟨a,rfl,rfl,rfl⟩ | ⟨a,n,c,u,e,p,h⟩
 ·rcases d with ⟨b,rfl,rfl,rfl⟩ | ⟨b,_⟩
  ·exact ⟨rfl,rfl,rfl⟩
  ·rw [a] at b
   cases b
 ·rcases d with ⟨b,_⟩ | ⟨b,r,c',u',s,q,d⟩
  ·rw [a] at b
   cases b
  ·obtain rfl:n=r:=by omega
   obtain ⟨rfl,rfl⟩:=Yk2 p q;rcases h with ⟨y,rfl,rfl,rfl⟩ | ⟨y,rfl,rfl,rfl⟩<;>rcases d with ⟨z,rfl,rfl,rfl⟩ | ⟨z,rfl,rfl,rfl⟩
   ·exact ⟨rfl,rfl,rfl⟩
   ·exact absurd y z
   ·exact absurd z y
   ·exact ⟨rfl,rfl,rfl⟩
theorem may17_iff {m:Mat} {k:Int}:may17 m k=true↔chk m=0∧1≤k∧k≤8:=by
 unfold may17;rw [Bool.and_eq_true,Bool.and_eq_true,decide_eq_true_iff,decide_eq_true_iff,decide_eq_true_iff]
theorem N0_ {m:Mat} {k:Int} {C:Nat→List Int→Prop} {g:Int} {P:List (List Int)} {Q:List Int} {x:Int} (h:ToldB m k C g P Q x):P.length≤1000∧(∀ i,i<P.length→(P.getD i []).length≤1000)∧Q.length≤1000:=by
 rcases h with ⟨a,rfl,rfl,rfl⟩ | ⟨a,n,c,u,e,o,h⟩
 ·exact ⟨k40_,fun i d=>absurd d k40_,k40_⟩
 ·obtain ⟨hc,q,r⟩:=may17_iff.1 a
  have j:=J1_ (m:=m) (k:=n) y40_ y40_ hc;obtain ⟨p,f,_,_⟩:=Zz6 j o;have s:=(Y0_ hc).2;have v:=Yw3 f;rcases h with ⟨y,rfl,rfl,rfl⟩ | ⟨y,rfl,rfl,rfl⟩
  ·refine ⟨by rw [Zv4];omega,fun i d=>?_,k40_⟩
   rw [Zv4] at d;have:(setsK c n).getD i []=Z3_ c (i:Int):=by unfold setsK;simp [List.getD,d]
   rw [this];have:=P4_ c (i:Int);omega
  ·exact ⟨k40_,fun i d=>absurd d k40_,y40_⟩
def PackC (m:Mat) (n:Nat) (c:List Int):Prop:=(c.length:Int) - ((Z3_ c (-1)).length:Int)=(n:Int) * rankT m (allL m.n)
def Vk0 (m:Mat) (_:Nat) (c:List Int):Prop:=(c.length:Int) - ((Z3_ c (-1)).length:Int)=m.n
def R4_ (m:Mat) (k:Int) (C:Nat→List Int→Prop) (code:Int) (w:World) (e:Ending) (w':World):Prop :=
 ∃ (vl vu:Value) (P:List (List Int)) (Q:List Int) (x:Int),e=.returned (.tuple #[vl,vu,.int .i64 x])∧Rows2 w' w'.heap.size vl P∧Row w' w'.heap.size vu Q∧Below w.heap.size w w'∧ToldB m k C code P Q x
theorem D9_ {m:Mat} {k:Int} {C:Nat→List Int→Prop} {d:Int} {w w':World} {e:Ending} (h:may17 m k=false) (f:e=.returned (.tuple #[.slice none 0 0,.slice none 0 0,.int .i64 1])) (hb:Below w.heap.size w w'):R4_ m k C d w e w' :=
 ⟨_,_,[],[],1,f,⟨none,0,rfl,⟨le_refl _,q41_,fun _=>rfl⟩,fun k c=>absurd c k40_⟩,⟨none,0,rfl,⟨le_refl _,q41_,fun _=>rfl⟩,fun k c=>absurd c k40_⟩,hb,.inl ⟨h,rfl,rfl,rfl⟩⟩
theorem N1_ {m:Mat} {n:Nat} {C:Nat→List Int→Prop} {d:Int} {w w':World} {e:Ending} (h:may17 m n=true) (r:∃ (c u:List Int) (o p:Value),MaxU (List.replicate n m) (nN m) c u∧Below w.heap.size w w'∧((C n c∧e=.returned (.tuple #[o,.slice none 0 0,.int .i64 0])∧Rows2 w' w'.heap.size o (setsK c n))∨(¬ C n c∧e=.returned (.tuple #[.slice none 0 0,p,.int .i64 d])∧Row w' w'.heap.size p u))):R4_ m n C d w e w':=by
 obtain ⟨c,u,o,p,q,hb,⟨y,f,j⟩ | ⟨y,f,j⟩⟩:=r
 ·exact ⟨_,_,_,[],0,f,j,⟨none,0,rfl,⟨le_refl _,q41_,fun _=>rfl⟩,fun k g=>absurd g k40_⟩,hb,.inr ⟨h,n,c,u,rfl,q,.inl ⟨y,rfl,rfl,rfl⟩⟩⟩
 ·exact ⟨_,_,[],_,d,f,⟨none,0,rfl,⟨le_refl _,q41_,fun _=>rfl⟩,fun k g=>absurd g k40_⟩,j,hb,.inr ⟨h,n,c,u,rfl,q,.inr ⟨y,rfl,rfl,rfl⟩⟩⟩
theorem Vk1 (E:Nat→Addr) (m:Mat) (v:Value) (k:Int) (w:World) (d:MatV w w.heap.size v m) (hs:Sml m) (g:Env E w):Calls Tryz.prog 6 #[v,.int .i64 k] w (R4_ m k (PackC m) 170 w):=by
 cases h:may17 m k with
 | false =>
  by_cases o:k<1∨8<k
  ·exact (Yb5 m v k w d o).mono fun e w' ⟨c,hb⟩=>D9_ h c hb
  ·obtain ⟨n,rfl⟩:∃ n:Nat,k=n:=⟨k.toNat,y40_⟩
   have hc:chk m≠0:=fun e=>q25_;exact (Xt5 E m v n w d hs g y40_ y40_ hc).mono fun e w' ⟨c,hb⟩=>D9_ h c hb
 | true =>
  obtain ⟨hc,p,q⟩:=may17_iff.1 h;obtain ⟨n,rfl⟩:∃ n:Nat,k=n:=⟨k.toNat,y40_⟩;exact (Zu1 E m v n w d hs g y40_ y40_ hc).mono fun e w' j=>N1_ h j
theorem Vk2 (E:Nat→Addr) (m:Mat) (v:Value) (k:Int) (w:World) (c:MatV w w.heap.size v m) (hs:Sml m) (d:Env E w):Calls Tryz.prog 7 #[v,.int .i64 k] w (R4_ m k (PackC m) 170 w):=by
 cases h:may17 m k with
 | false =>
  exact (Xt3 m v k w c hs h).mono fun e w' ⟨g,hb⟩=>D9_ h g hb
 | true =>
  obtain ⟨hc,o,p⟩:=may17_iff.1 h;obtain ⟨n,rfl⟩:∃ n:Nat,k=n:=⟨k.toNat,y40_⟩;exact (Vf8 E m v n w c hs d y40_ y40_ hc).mono fun e w' j=>N1_ h j
theorem Xu1 (E:Nat→Addr) (m:Mat) (v:Value) (k:Int) (w:World) (d:MatV w w.heap.size v m) (hs:Sml m) (g:Env E w):Calls Tryz.prog 8 #[v,.int .i64 k] w (R4_ m k (Vk0 m) 171 w):=by
 cases h:may17 m k with
 | false =>
  by_cases o:k<1∨8<k
  ·exact (Xa0 m v k w d o).mono fun e w' ⟨c,hb⟩=>D9_ h c hb
  ·obtain ⟨n,rfl⟩:∃ n:Nat,k=n:=⟨k.toNat,y40_⟩
   have hc:chk m≠0:=fun e=>q25_;exact (Xd2 E m v n w d hs g y40_ y40_ hc).mono fun e w' ⟨c,hb⟩=>D9_ h c hb
 | true =>
  obtain ⟨hc,p,q⟩:=may17_iff.1 h;obtain ⟨n,rfl⟩:∃ n:Nat,k=n:=⟨k.toNat,y40_⟩;exact (Zh6 E m v n w d hs g y40_ y40_ hc).mono fun e w' j=>N1_ h j
theorem Xu2 (E:Nat→Addr) (m:Mat) (v:Value) (k:Int) (w:World) (c:MatV w w.heap.size v m) (hs:Sml m) (d:Env E w):Calls Tryz.prog 9 #[v,.int .i64 k] w (R4_ m k (Vk0 m) 171 w):=by
 cases h:may17 m k with
 | false =>
  exact (Xd1 m v k w c hs h).mono fun e w' ⟨g,hb⟩=>D9_ h g hb
 | true =>
  obtain ⟨hc,o,p⟩:=may17_iff.1 h;obtain ⟨n,rfl⟩:∃ n:Nat,k=n:=⟨k.toNat,y40_⟩;exact (Xt4 E m v n w c hs d y40_ y40_ hc).mono fun e w' j=>N1_ h j
theorem ub_1 (E:Nat→Addr) (m:Mat) (v:Value) (k:Int) (w:World) (hv:MatV w w.heap.size v m) (hl:Lim m) (hE:Env E w) (hf:fewB 9 m 6=false):Calls Tryz.prog 3 #[v,.int .i64 k] w (Truly w):=x2_
theorem ub_2 (E:Nat→Addr) (m:Mat) (v:Value) (k:Int) (w:World) (hv:MatV w w.heap.size v m) (hl:Lim m) (hE:Env E w) (hf:fewB 9 m 6=true) (c:4<k) (d:k≤8):Calls Tryz.prog 3 #[v,.int .i64 k] w (Truly w):=x2_
theorem Xu3 (E:Nat→Addr) (m:Mat) (v:Value) (k:Int) (w:World) (hv:MatV w w.heap.size v m) (hl:Lim m) (hE:Env E w) (hf:fewB 9 m 6=true) (c:¬ 4<k):Calls Tryz.prog 3 #[v,.int .i64 k] w (Truly w):=x0_
theorem Xu4 (E:Nat→Addr) (m:Mat) (v:Value) (k:Int) (w:World) (hv:MatV w w.heap.size v m) (hl:Lim m) (hE:Env E w) (hf:fewB 9 m 6=true) (c:4<k) (d:¬ k≤8):Calls Tryz.prog 3 #[v,.int .i64 k] w (Truly w):=x0_
theorem Yz1 (E:Nat→Addr) (m:Mat) (v:Value) (k:Int) (w:World) (d:MatV w w.heap.size v m) (hl:Lim m) (c:Env E w):Calls Tryz.prog 3 #[v,.int .i64 k] w (Truly w):=by
 cases hf:fewB 9 m 6 with
 | false=>exact ub_1 E m v k w d hl c hf
 | true =>
  by_cases e:4<k
  ·by_cases g:k≤8
   ·exact ub_2 E m v k w d hl c hf e g
   ·exact Xu4 E m v k w d hl c hf e g
  ·exact Xu3 E m v k w d hl c hf e
end Go.Proofs.YtigobiacbficaaaGreatDoor.Wp
