/- slices.Repeat of one matroid, walked: so many of it; and copy of elements that have six cells. -/
import Derived.Test.YtigobiacbficaaaGreatDoorVI10C
import Derived.Test.YtigobiacbficaaaGreatDoorMShelf
import Derived.Test.YtigobiacbficaaaGreatDoorZK
import Derived.Laws.CopyOwn
import Derived.Laws.MakeOwn
import Derived.Deep.RegionLaw
import Derived.Test.YtigobiacbficaaaGreatDoorX0A
import Derived.Test.YtigobiacbficaaaGreatDoorX0B
set_option maxHeartbeats 8000000
set_option maxRecDepth 100000
open Go.Lib (hid)
namespace Go.Proofs.YtigobiacbficaaaGreatDoor.Wp
open Go Go.RowKit
open K (wpAny_act)
theorem Zm5 {P:Program} (w:World) (f B C d:TypeId) (g o e m:Nat) (a:Addr) (h A:Nat) (c:Array Value) (t:TypeId) (cs:List Value) (n k:Nat)
  (z:P.underlying f=some (.slice d)) (hs:(P.info? d).map (·.size)=some k)
  (r:w.heap[g]?=some (.cells c t (0,0))) (u:n=Nat.min h e) (hc:cs.length=n * k)
  (x:∀ j v,cs[j]?=some v→w.cell? (a.add j)=some v) (q:o+cs.length≤c.size) (p:∀ v∈cs,v.oneCell'=true) :
  (Builtin.copy_ #[f,B] C #[.slice (some ⟨g,o,none⟩) e m,.slice (some a) h A]).run P w =
   .ok (goInt n) (w.setRow g (c.toList.take o ++ cs ++ c.toList.drop (o+cs.length)).toArray):=by
 have hl:=run_loadCells_list (P:=P) w a cs x;have y:=run_storeCells_at P g o t cs 0 c w r (by simpa using q) p;cases hq:P.info? d with
 | none=>simp [hq] at hs
 | some i =>
  have s:i.size=k:=by simpa [hq] using hs
  rw [hc] at hl;simp [Builtin.copy_,run_underlying z,Builtin.lenOf,Builtin.firstCells,sizeOf,typeInfo,hq,s,← u,hl,y]
theorem Zt5 {P:Program} {w:World} {ops:Array Oper} {rest:List Oper} {o:Oper} {a:Act} {Q:Exit→Act→World→Prop} (F:o.guard=none) (d s:Operand) (p z:TypeId)
  (H:o.op=.call { callee:=.builtin .copy,args:=#[d,s],argTypes:=#[p,z] }) (q:TypeId) (k:Nat) (M:P.underlying p=some (.slice q)) (L:(P.info? q).map (·.size)=some k)
  (f:Addr) (m u r y:Nat) (g e:Nat) (hd:a.eval d=.slice (some ⟨g,e,none⟩) m u) (hs:a.eval s=.slice (some f) r y)
  (c:List Value) (t:TypeId) (x:w.heap[g]?=some (.cells c.toArray t (0,0))) (cs:List Value) (n:Nat) (G:n=Nat.min r m) (hc:cs.length=n * k)
  (J:∀ j v,cs[j]?=some v→w.cell? (f.add j)=some v)
  (E:e+cs.length≤c.length) (A:∀ v∈cs,v.oneCell'=true) (B:Nat) (w0:World) (hb:Below B w0 w) (C:B≤g)
  (h:∀ w',Hid (w'.heap[g]?=some (.cells (splice c e cs).toArray t (0,0)))→Below B w0 w'→wpList P ops Q rest (a.put o.dst (goInt n)) w') :
  wpList P ops Q (o :: rest) a w:=by
 refine wpList_plain F fun K D=>?_;have I:=Zm5 (P:=P) w p z o.type q g e m u f r y c.toArray t cs n k M L x G hc J (by simpa using E) A;unfold Oper.wp;simp [execOp,H,resolve,invoke,builtin,hd,hs,I,Result.andThen];exact D _ _ (h _ (show _=_ by simpa [splice] using setRow_heap w g _ _ t _ x) (below_setRow hb C _))
theorem Yk3 {P:Program} {ops:Array Oper} {o:Oper} {a:Act} {w:World} {K:Act→World→Prop} {Q:Exit→Act→World→Prop} {E:Prop} (F:o.guard=none) (d s:Operand) (p z:TypeId)
  (H:o.op=.call { callee:=.builtin .copy,args:=#[d,s],argTypes:=#[p,z] }) (q:TypeId) (k:Nat) (M:P.underlying p=some (.slice q)) (L:(P.info? q).map (·.size)=some k)
  (f:Addr) (m u r y:Nat) (g e:Nat) (hd:a.eval d=.slice (some ⟨g,e,none⟩) m u) (hs:a.eval s=.slice (some f) r y)
  (c:List Value) (t:TypeId) (x:w.heap[g]?=some (.cells c.toArray t (0,0))) (cs:List Value) (n:Nat) (G:n=Nat.min r m) (hc:cs.length=n * k)
  (J:∀ j v,cs[j]?=some v→w.cell? (f.add j)=some v)
  (D:e+cs.length≤c.length) (A:∀ v∈cs,v.oneCell'=true) (B:Nat) (w0:World) (hb:RowKit.Below B w0 w) (C:B≤g)
  (h:∀ w',RowKit.Hid (w'.heap[g]?=some (.cells (splice c e cs).toArray t (0,0)))→RowKit.Below B w0 w'→K (a.put o.dst (goInt n)) w') :
  if Region.wanted o (yielded ops a.tmps)=true then Oper.wp P o a w K Q else E:=by
 have N:Region.wanted o (yielded ops a.tmps)=true:=by simp [Region.wanted,F]
 rw [if_pos N];have I:=Zm5 (P:=P) w p z o.type q g e m u f r y c.toArray t cs n k M L x G hc J (by simpa using D) A;unfold Oper.wp;simp [execOp,H,resolve,invoke,builtin,hd,hs,I,Result.andThen];exact h _ (show _=_ by simpa [splice] using setRow_heap w g _ _ t _ x) (below_setRow hb C _)
def FillM (w:World) (g n:Nat) (xs:List Value) (m:Nat):Prop:=∃ cur:List Value,w.heap[g]?=some (.cells cur.toArray 25 (0,0))∧cur.length=n * 6∧(∀ k j,k<m→j<6→cur[k * 6+j]?=xs[j]?)∧∀ v∈cur,v.oneCell'=true
theorem Za9 {c:List Value} (d:c.length=6) (t:Nat):(flat6 (fun _=>c) t).length=t * 6:=P1_ (fun _=>d) t
theorem Xo5 {c:List Value} (d:c.length=6) {t k j:Nat} (f:k<t) (e:j<6):(flat6 (fun _=>c) t)[k * 6+j]?=c[j]?:=Zu5 (fun _=>d) t k j f e
theorem Yt6 {d:List Value} (e:∀ v∈d,v.oneCell'=true) (t:Nat):∀ v∈flat6 (fun _=>d) t,v.oneCell'=true:=fun v c=>by
 unfold flat6 at c;obtain ⟨k,_,f⟩:=List.mem_flatMap.1 c;exact e v f
theorem Zq2 {w:World} {g n m t:Nat} {e d:List Value} (o:e.length=6) (q:∀ v∈e,v.oneCell'=true) (h2:d.length=n * 6) (h3:∀ k j,k<m→j<6→d[k * 6+j]?=e[j]?) (f:∀ v∈d,v.oneCell'=true) (u:m+t≤n)
  (h:w.heap[g]?=some (.cells (splice d (m * 6) (flat6 (fun _=>e) t)).toArray 25 (0,0))):FillM w g n e (m+t):=by
 have hl:=Za9 o t;refine ⟨_,h,?_,fun k j s p=>?_,fun v c=>?_⟩
 ·rw [length_splice _ _ _ y40_,h2]
 ·unfold splice
  by_cases r:k<m
  ·rw [List.getElem?_append_left k42_,List.getElem?_take_of_lt y40_]
   exact h3 k j r p
  ·rw [List.getElem?_append_right k42_,List.length_take,show min (m * 6) d.length=m * 6 by omega,List.getElem?_append_left y40_,show k * 6+j - m * 6=(k - m) * 6+j by omega]
   exact Xo5 o y40_ p
 ·unfold splice at c
  rw [List.mem_append,List.mem_append] at c;rcases c with c | c | c
  ·exact f v (List.mem_of_mem_take c)
  ·exact Yt6 q t v c
  ·exact f v (List.mem_of_mem_drop c)
theorem Zm6 {w:World} {g n m:Nat} {c:List Value} (_h6:c.length=6) (h:FillM w g n c m) {k j:Nat} {v:Value} (f:k<m) (e:j<6) (o:c[j]?=some v):w.cell? ⟨g,k * 6+j,none⟩=some v:=by
 obtain ⟨p,d,_,h3,_⟩:=h;rw [cell_of_row w g _ _ _ _ d];simpa [o] using h3 k j f e
theorem Zm7 {w:World} {g n c:Nat} {d f o p q r:Value} {m:Mat} (h:FillM w g n [d,f,o,p,q,r] n) (z:MatV w w.heap.size (.agg #[d,f,o,p,q,r]) m) (hc:n≤c) (u:c≤maxLen) (x:g<w.heap.size):MatL w w.heap.size (.slice (some ⟨g,0,none⟩) n c) (List.replicate n m):=by
 refine ⟨some ⟨g,0,none⟩,c,by rw [List.length_replicate],⟨by rw [List.length_replicate];exact hc,u,fun e=>by cases e⟩,fun k s=>?_⟩;rw [List.length_replicate] at s;have e:∀ j,(⟨g,0,none⟩:Addr).add j=⟨g,j,none⟩:=fun j=>by unfold Addr.add;split<;>simp_all
 have hc:∀ j v,j<6→[d,f,o,p,q,r][j]?=some v→w.cell? ⟨g,k * 6+j,none⟩=some v:=fun j v y A=>Zm6 rfl h s y A;rw [show (List.replicate n m).getD k default=m by simp [List.getD,s]];refine ⟨⟨g,0,none⟩,_,rfl,x,⟨d,f,o,p,q,r,rfl,?_,?_,?_,?_,?_,?_⟩,z⟩
 ·rw [e];exact hc 0 _ q41_ rfl
 ·rw [e];exact hc 1 _ q41_ rfl
 ·rw [e];exact hc 2 _ q41_ rfl
 ·rw [e];exact hc 3 _ q41_ rfl
 ·rw [e];exact hc 4 _ q41_ rfl
 ·rw [e];exact hc 5 _ q41_ rfl
theorem Zt6 (n:Nat) (g:n≤1000) (w:World):(Instr.makeSlice 23 (.int .i64 (n:Int)) (.int .i64 (n:Int))).run Tryz.prog w=.ok (.slice (some ⟨w.heap.size,0,none⟩) n n) (w.alloc (.cells (madeCells #[.int .i64 0,.int .i64 0,.int .i64 0,.int .i64 0,.slice none 0 0,.slice none 0 0] (n * 6)) 25)):=by
 obtain ⟨f,c,d,e,hz2⟩:=info_parts Xr5;have h:=run_make (P:=Tryz.prog) w 23 25 f _ z40_ c d .i64 .i64 n n y40_ (Int.le_refl _) x49_ y40_;rw [e,Int.toNat_natCast] at h;exact h
theorem Xo6 (n:Nat):∀ v∈(madeCells #[.int .i64 0,.int .i64 0,.int .i64 0,.int .i64 0,.slice none 0 0,.slice none 0 0] n).toList,v.oneCell'=true:=fun v c=>by
 unfold madeCells at c;simp only [Array.toList_map,List.mem_map] at c;obtain ⟨k,_,rfl⟩:=c;have d:k % 6<6:=Nat.mod_lt _ q41_;show (((#[.int .i64 0,.int .i64 0,.int .i64 0,.int .i64 0,.slice none 0 0,.slice none 0 0]:Array Value)[k % 6]!)).oneCell'=true;generalize k % 6=j at *
 match j,d with
 | 0,_=>rfl
 | 1,_=>rfl
 | 2,_=>rfl
 | 3,_=>rfl
 | 4,_=>rfl
 | 5,_=>rfl
theorem Zg7 (b n:Nat) (c:List Value) (w:World) (T:c.length=6) (S:∀ v∈c,v.oneCell'=true) (hc:∀ j v,c[j]?=some v→w.cell? ⟨b,j,none⟩=some v) (hb:b<w.heap.size) (xh:1≤n) (hn:n≤64) :
  Calls Tryz.prog 29 #[.slice (some ⟨b,0,none⟩) 1 1,.int .i64 n] w fun e w'=>e=.returned (.slice (some ⟨w.heap.size,0,none⟩) n n)∧FillM w' w.heap.size n c n∧Below w.heap.size w w':=by
 have xj:(n:Int)≤64:=y40_;have xi:(1:Int)≤(n:Int):=y40_;have E:=fun W=>Tryz.bits_Mul 1 n y40_ y40_ W;rw [show 1 * n / 18446744073709551616=0 by omega,show 1 * n % 18446744073709551616=n by omega] at E;have x6:=hid E;have x8:=fun W=>Zt6 n y40_ W;have H:=hid ((Below.refl w.heap.size w).alloc (Nat.le_refl _) (.cells (madeCells #[.int .i64 0,.int .i64 0,.int .i64 0,.int .i64 0,.slice none 0 0,.slice none 0 0] (n * 6)) 25));have d:=hid T;have r:=hid S;have g:Hid (∀ j v,c[j]?=some v→(w.alloc (.cells (madeCells #[.int .i64 0,.int .i64 0,.int .i64 0,.int .i64 0,.slice none 0 0,.slice none 0 0] (n * 6)) 25)).cell? ((⟨b,0,none⟩:Addr).add j)=some v):=hid fun j v o=>by
  have e:(⟨b,0,none⟩:Addr).add j=⟨b,j,none⟩:=j44_;rw [e];exact (Below.cell (B:=w.heap.size) ((Below.refl _ w).alloc (Nat.le_refl _) _) (p:=⟨b,j,none⟩) hb).trans (hc j v o)
 have z:Hid ((w.alloc (.cells (madeCells #[.int .i64 0,.int .i64 0,.int .i64 0,.int .i64 0,.slice none 0 0,.slice none 0 0] (n * 6)) 25)).heap[w.heap.size]?=some (.cells (madeCells #[.int .i64 0,.int .i64 0,.int .i64 0,.int .i64 0,.slice none 0 0,.slice none 0 0] (n * 6)).toList.toArray 25 (0,0))):=hid (by simpa using heap_alloc_new w _);obtain ⟨Y,u⟩:∃ Y:List Value,Y=(madeCells #[.int .i64 0,.int .i64 0,.int .i64 0,.int .i64 0,.slice none 0 0,.slice none 0 0] (n * 6)).toList:=⟨_,rfl⟩;have x:Hid (Y.length=n * 6):=hid (by rw [u];simp [size_madeCells]);have G:Hid (∀ v∈Y,v.oneCell'=true):=hid (by rw [u];exact Xo6 _);rw [← u] at z;clear E hc u T S
 go_enter Tryz.func29,Tryz.ntmps29
 go_wp2_with fail
 refine (x6.out _).mono ?_;rintro e w1 ⟨rfl,xb⟩;have x3:=xb.symm;subst x3;have x7:((0:Nat):Int)=0:=rfl;rw [x7]
 go_wp2_with (refine Zt5 rfl (.tmp 31) (.tmp 32) 23 23 rfl 25 6 z40_ z40_ ⟨b,0,none⟩ n n 1 1 w.heap.size 0 rfl rfl Y 25 z.out c 1 ?h2 d.out g.out ?h3 r.out w.heap.size w H.out (Nat.le_refl _) ?_)
 case h2=>show 1=min 1 n;omega
 case h3=>rw [x.out,d.out];omega
 intro w2 M V;have P:Hid (FillM w2 w.heap.size n c 1):=hid (by
  have hg:=M.out;have e:c=flat6 (fun _=>c) 1:=by simp [flat6,List.range_succ]
  rw [e] at hg;have:=Zq2 (m:=0) (t:=1) (n:=n) d.out r.out x.out (fun k j hk _=>absurd hk (Nat.not_lt_zero _)) G.out y40_ hg;simpa using this)
 have I:=hid V;clear M V H x8 g z x G;go_wp2
 go_loopw [8] (fun F wr=>∃ m:Nat,F=.int .i64 m∧m≤n∧1≤m∧FillM wr w.heap.size n c m∧Below w.heap.size w wr) (fun F _=>n - (intOf F).toNat)
 case atStart=>exact ⟨1,rfl,y40_,Nat.le_refl _,P.out,I.out⟩
 case round =>
  clear P I;obtain ⟨m,rfl,hm,xe,hf,Z⟩:=hrel;have s:=hid hf;have y:=hid Z;clear hf Z;by_cases xd:m<n
  ·have xf:(m:Int)<(n:Int):=by omega
   have xg:(m:Int)≤(n:Int):=y40_;have xk:¬ (n=m):=y40_;go_wp2;refine wp_region_any z40_ ?_;change wpAny _ _ _ _ _ _ _ (World.drew _);refine wpAny_t 0 ?_;refine wpAny_t 1 ?_;refine wpAny_t 2 ?_;refine wpAny_t 3 ?_;refine wpAny_t 4 ?_;refine wpAny_t 5 ?_;refine wpAny_t 6 ?_;obtain ⟨C,x0,D,x1,x2⟩:=id s.out;obtain ⟨t,q⟩:∃ t,t=Nat.min m (n - m):=⟨_,rfl⟩;have xa:m+t≤n:=by rw [q];show m+min m (n - m)≤n;omega
   have xl:1≤t:=by rw [q];show 1≤min m (n - m);omega
   have xm:t≤m:=by rw [q];show min m (n - m)≤m;omega
   have hw:IntKind.i64.wrap ((m:Int)+(t:Int))=(m:Int)+(t:Int):=y41_;have x3:wrap64 ((m:Int)+(t:Int))=(m:Int)+(t:Int):=by unfold wrap64;omega
   have Q:=hid q;have J:=hid x0;have O:=hid (fun (W:World) (h:W.heap[w.heap.size]?=some (.cells (splice C (m * 6) (flat6 (fun _=>c) t)).toArray 25 (0,0)))=>Zq2 d.out r.out D x1 x2 xa h);have L:Hid (m * 6+(flat6 (fun _=>c) t).length≤C.length):=hid (by rw [Za9 d.out,D];omega);have g:Hid (∀ j v,(flat6 (fun _=>c) t)[j]?=some v→wr.drew.cell? ((⟨w.heap.size,0,none⟩:Addr).add j)=some v):=hid fun j v o=>by
    have e:(⟨w.heap.size,0,none⟩:Addr).add j=⟨w.heap.size,j,none⟩:=j44_;have xc:j<t * 6:=by have:=(List.getElem?_eq_some_iff.1 o).1;rwa [Za9 d.out] at this
    have R:j=j / 6 * 6+j % 6:=y40_;rw [R,Xo5 d.out y40_ (Nat.mod_lt _ q41_)] at o;rw [e,R];exact Zm6 d.out s.out y40_ (Nat.mod_lt _ q41_) o
   clear q x0 x1 x2 D;refine wpAny_ready (rs:=[7]) z40_ k40_ ?_;refine AllReady.cons rfl (fun K U=>?_) AllReady.nil;refine Yk3 rfl (.tmp 41) (.tmp 44) 23 23 rfl 25 6 z40_ z40_ ⟨w.heap.size,0,none⟩ _ _ _ _ w.heap.size (m * 6) rfl rfl C 25 J.out (flat6 (fun _=>c) t) t Q.out (Za9 d.out t) g.out L.out (Yt6 r.out t) w.heap.size w y.out.drew (Nat.le_refl _) ?_;intro w3 N X;have x5:=hid (O.out w3 N.out);have x4:=hid X;clear N X;refine U _ _ ?_;clear U K;refine wpAny_n ?_;refine wpAny_t 8 ?_;refine wpAny_t 9 ?_;refine wpAny_done z40_ ?_ _;clear s y J O Q L g;go_wp2
   go_roundw
   case rel=>exact ⟨m+t,j41_,y40_,y40_,x5.out,x4.out⟩
   exact mz_
  ·have x9:m=n:=by omega
   subst x9;go_wp2;go_ret;exact ⟨rfl,s.out,y.out⟩
end Go.Proofs.YtigobiacbficaaaGreatDoor.Wp
