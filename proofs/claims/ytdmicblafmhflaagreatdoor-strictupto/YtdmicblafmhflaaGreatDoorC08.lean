/- axiomkeep: pick, name, places, pred, term. -/
import Derived.Test.YtdmicblafmhflaaGreatDoorC03
import Derived.Test.YtdmicblafmhflaaGreatDoorC07
import Derived.Test.YtdmicblafmhflaaGreatDoorC00
import Derived.Deep.RegionWith
import Derived.Below
set_option linter.unusedSimpArgs false
set_option linter.unusedVariables false
set_option maxHeartbeats 2000000
set_option maxRecDepth 100000
namespace Go.Proofs.YtdmicblafmhflaaGreatDoor
section
open Go.RowKit
def b8(c:Int):Prop:= -9223372036854775808≤c∧c≤9223372036854775807
theorem sE{c:Int}{n:Nat}{d:Int}(hd:(if c<0 then-(c+1)else c)=d)(h0:0≤d)(hn:0<n):d.tmod (n:Int)=((Ax.a8 c n:Nat):Int):=by
 unfold Ax.a8
 rw[hd,Int.tmod_eq_emod_of_nonneg h0]
 have:=Int.emod_nonneg d (show(n:Int)≠0 by omega)
 omega
theorem oP(c:Int)(n:Nat)(w:World)(hc:b8 c)(hn:0<n)(FK:n≤1000):Calls Tryz.prog 27 #[.int .i64 c,.int .i64 n] w fun e w'=>e=.returned (.int .i64 (Ax.a8 c n))∧w'=w:=by
 obtain⟨h1,h2⟩:=hc
 by_cases h:c<0
 · have hb:decide (c<0)=true:=by simpa using h
   have e:=sE (c:=c) (n:=n) (d:= -(c+1)) (by rw[if_pos h]) (by omega) hn
   go_enter Tryz.func27,Tryz.ntmps27
   go_wp2
   go_ret
   exact⟨by rw[←e];rfl,rfl⟩
 · have hb:decide (c<0)=false:=by simpa using h
   have e:=sE (c:=c) (n:=n) (d:=c) (by rw[if_neg h]) (by omega) hn
   go_enter Tryz.func27,Tryz.ntmps27
   go_wp2
   go_ret
   exact⟨by rw[←e];rfl,rfl⟩
theorem sm(c:Int)(n k:Nat)(hc:b8 c)(hn:0<n)(FK:n≤1000)(hk:Ax.a8 c n=k)(N:Int)(hN:N=n):∀w,Calls Tryz.prog 27 #[.int .i64 c,.int .i64 N] w fun e w'=>e=.returned (.int .i64 k)∧w'=w:=by
 subst hk hN
 exact fun w=>oP c n w hc hn FK
theorem D4(c:Int)(w:World)(hc:b8 c):Calls Tryz.prog 124 #[.int .i64 c] w fun e w'=>e=.returned (.int .i64 (Ax.a8 c 7))∧w'=w:=by
 have hp:=sm c 7 _ hc (by decide) (by decide) rfl 7 rfl
 go_enter Tryz.func124,Tryz.ntmps124
 go_wp2_with (go_at_call 27;refine(hp _).mono ?_;rintro e w1 ⟨rfl,rfl⟩)
 go_ret
 exact⟨rfl,rfl⟩
theorem yL(c:Int)(w:World)(hc:b8 c):Calls Tryz.prog 19 #[.int .i64 c] w fun e w'=>e=.returned (.int .i64 (if Ax.a8 c 3=0 then 1 else 2))∧w'=w:=by
 obtain⟨k,hk⟩:∃k,Ax.a8 c 3=k:=⟨_,rfl⟩
 have hp:=sm c 3 k hc (by decide) (by decide) hk 3 rfl
 rw[hk]
 by_cases h0:k=0
 · subst h0
   go_enter Tryz.func19,Tryz.ntmps19
   go_wp2_with (go_at_call 27;refine(hp _).mono ?_;rintro e w1 ⟨rfl,rfl⟩)
   go_ret
   exact⟨rfl,rfl⟩
 · have hb:(((k:Nat):Int)==0)=false:=by simp;omega
   rw[if_neg h0]
   go_enter Tryz.func19,Tryz.ntmps19
   go_wp2_with (go_at_call 27;refine(hp _).mono ?_;rintro e w1 ⟨rfl,rfl⟩)
   go_ret
   exact⟨rfl,rfl⟩
theorem EG(c:Int)(w:World)(hc:b8 c):Calls Tryz.prog 18 #[.int .i64 c] w fun e w'=>e=.returned (.string (Ax.cq (Ax.a8 c 3)))∧Below w.heap.size w w':=by
 obtain⟨k,hk⟩:∃k,Ax.a8 c 3=k:=⟨_,rfl⟩
 have aC:k<3:=by rw[←hk];exact Ax.ef c 3 (by decide)
 have hp:=sm c 3 k hc (by decide) (by decide) hk 3 rfl
 rw[hk]
 clear hk
 have:k=0∨k=1∨k=2:=by omega
 rcases this with rfl | rfl | rfl
 all_goals (go_enter Tryz.func18,Tryz.ntmps18)
 all_goals (go_wp2_with (go_at_call 27;refine(hp _).mono ?_;rintro e w1 ⟨rfl,rfl⟩))
 all_goals go_ret
 all_goals exact⟨rfl,(Below.refl _ _).alloc (Nat.le_refl _) _⟩
theorem ra(c:Int)(w:World)(hc:b8 c):Calls Tryz.prog 122 #[.int .i64 c] w fun e w'=>e=.returned (.string (Ax.bZ (Ax.a8 c 4)))∧Below w.heap.size w w':=by
 obtain⟨k,hk⟩:∃k,Ax.a8 c 4=k:=⟨_,rfl⟩
 have aC:k<4:=by rw[←hk];exact Ax.ef c 4 (by decide)
 have hp:=sm c 4 k hc (by decide) (by decide) hk 4 rfl
 rw[hk]
 clear hk
 have:k=0∨k=1∨k=2∨k=3:=by omega
 rcases this with rfl | rfl | rfl | rfl
 all_goals (go_enter Tryz.func122,Tryz.ntmps122)
 all_goals (go_wp2_with (go_at_call 27;refine(hp _).mono ?_;rintro e w1 ⟨rfl,rfl⟩))
 all_goals go_ret
 all_goals exact⟨rfl,(Below.refl _ _).alloc (Nat.le_refl _) _⟩
end
/- axiomkeep: terms, in. -/
section
open Go.RowKit
def aE(l:List Nat):List Value:=l.map fun (n:Nat)=>.int .i64 (n:Int)
theorem rl(l:List Nat)(k:Nat)(h:k<l.length):(aE l)[k]?=some (.int .i64 l[k]):=by simp[aE,h]
theorem qX{w:World}{b:Nat}{e:TypeId}{xs:List Value}{n:Nat}(hs:xs.length=n)(hn:n≤1000)(hb:b≤w.heap.size):(w.alloc (.cells xs.toArray e)).ownsRow b e 1 (.slice (some ⟨w.heap.size,0,none⟩) n n) n xs:=
 ⟨by omega,.inr ⟨w.heap.size,n,xs.toArray,rfl,hb,heap_alloc_new _ _,Nat.le_refl _,by unfold maxLen;omega,by simp[hs],by simp[←hs]⟩⟩
theorem TJ{w:World}{o:Obj}{b:Nat}{e:TypeId}{xs:List Value}{n:Nat}(hs:xs.length=n)(hn:n≤1000)(hb:b≤w.heap.size):((w.alloc o).alloc (.cells xs.toArray e)).ownsRow b e 1 (.slice (some ⟨w.heap.size+1,0,none⟩) n n) n xs:=by
 have:=qX (w:=w.alloc o) (b:=b) (e:=e) (xs:=xs) (n:=n) hs hn (by simp;omega)
 rw[World.size_alloc]at this
 exact this
theorem qo(w:World)(a:Ax.dW)(hp:b8 a.pred)(ha:b8 a.a)(hb:b8 a.b):Calls Tryz.prog 64 #[.agg #[.int .i64 a.pred,.int .i64 a.a,.int .i64 a.b]] w fun e w'=>∃d c,e=.returned (.slice d (Ax.bT a).length c)∧w'.ownsRow w.heap.size 3 1 (.slice d (Ax.bT a).length c) (Ax.bT a).length (aE (Ax.bT a))∧Below w.heap.size w w':=by
 have lu:=fun w=>yL a.pred w hp
 have Us:=fun w=>D4 a.a w ha
 have Un:=fun w=>D4 a.b w hb
 unfold Ax.bT
 by_cases h0:Ax.a8 a.pred 3=0
 · simp only[h0,if_true]at lu ⊢
   generalize Ax.a8 a.a 7=x at*
   generalize Ax.a8 a.b 7=y at*
   clear Un
   go_enter Tryz.func64,Tryz.ntmps64
   go_wp2_with (first | (go_at_call 19;refine(lu _).mono ?_;rintro e w1 ⟨rfl,rfl⟩) | (go_at_call 124;refine(Us _).mono ?_;rintro e w2 ⟨rfl,rfl⟩))
   go_ret
   exact⟨_,_,rfl,TJ (xs:=aE [x]) (n:=1) rfl (by decide) (Nat.le_refl _),((Below.refl _ _).alloc (Nat.le_refl _) _).alloc (by simp) _⟩
 · simp only[h0,if_false]at lu ⊢
   generalize Ax.a8 a.a 7=x at*
   generalize Ax.a8 a.b 7=y at*
   go_enter Tryz.func64,Tryz.ntmps64
   go_wp2_with (first | (go_at_call 19;refine(lu _).mono ?_;rintro e w1 ⟨rfl,rfl⟩))
   go_region_with (first | (go_at_call_of 124 (Value.int IntKind.i64 a.a);refine(Us _).mono ?_;rintro e w2 ⟨rfl,rfl⟩) | (go_at_call 124;refine(Un _).mono ?_;rintro e w2 ⟨rfl,rfl⟩))
   all_goals (go_wp2_with fail)
   all_goals go_ret
   all_goals exact⟨_,_,rfl,TJ (xs:=aE [x,y]) (n:=2) rfl (by decide) (Nat.le_refl _),(((Below.refl _ _).alloc (Nat.le_refl _) _).alloc (by simp) _).drew⟩
theorem US(w:World)(b:Nat)(ld:Option Addr)(lc:Nat)(l:List Nat)(h:w.ownsRow b 3 1 (.slice ld l.length lc) l.length (aE l))(n:Nat):Calls Tryz.prog 123 #[.slice ld l.length lc,.int .i64 n] w fun e w'=>e=.returned (.bool (decide (n∈l)))∧w'=w:=by
 have hle:=aZ h
 generalize hR:decide (n∈l)=R
 go_enter Tryz.func123,Tryz.ntmps123
 go_wp2_with fail
 go_loopw [5] (fun iv wr=>∃(i:Nat),i≤l.length∧iv=.int .i64 i∧wr=w∧∀k (hk:k<l.length),k<i→l[k]≠n) (fun iv _=>l.length-(intOf iv).toNat)
 case atStart=>exact⟨0,Nat.zero_le _,rfl,rfl,fun k _ hk=>by omega⟩
 case round=>
  obtain⟨i,hi,rfl,PZ,jO⟩:=hrel
  subst PZ
  have C3:Hid (∀k (hk:k<l.length),k<i→l[k]≠n):=jO
  clear jO
  by_cases aC:i<l.length
  · obtain⟨g,rfl,hg,hc,bA⟩:=ax h (by omega)
    have c0:=bA _ _ (rl l i aC)
    clear bA
    obtain⟨x,hx⟩:∃x,l[i]=x:=⟨_,rfl⟩
    rw[hx]at c0
    have HX:Hid (l[i]=x):=hx
    clear hx
    by_cases e:x=n
    · have hb:(((x:Nat):Int)==((n:Nat):Int))=true:=by simp[e]
      have HR:Hid (R=true):=by
       rw[←hR]
       show decide _=true
       rw[decide_eq_true_eq,←e,←HX.out]
       exact List.getElem_mem aC
      clear hR
      go_wp2_with fail
      go_ret
      exact⟨by rw[HR.out];rfl,rfl⟩
    · have hb:(((x:Nat):Int)==((n:Nat):Int))=false:=by simp;omega
      go_wp2_with fail
      go_roundw
      case rel=>
       refine⟨i+1,by omega,by go_num,trivial,fun k hk hki=> ?_⟩
       by_cases ek:k=i
       · subst ek;rw[HX.out];exact e
       · exact C3.out k hk (by omega)
      case measure=>simp[intOf];omega
  · have HR:Hid (R=false):=by
     rw[←hR]
     show decide _=false
     rw[decide_eq_false_iff_not]
     intro hm
     obtain⟨k,hk,e⟩:=List.getElem_of_mem hm
     exact C3.out k hk (by omega) e
    clear hR
    go_wp2_with fail
    go_ret
    exact⟨by rw[HR.out];rfl,rfl⟩
end
/- What follows, worked out fact by fact: the search as a plain function, over facts and rules of any kind. No program here. -/
namespace En
structure dP(F:Type) where
 k:Nat
 inst:List F→Option F
section
variable {F : Type} [DecidableEq F]
def fX(k:Nat)(L:List F):List (List F):=match k with
 | 0=>[[]]
 | 1=>L.map fun x=>[x]
 | _=>L.flatMap fun x=>L.map fun y=>[x,y]
def n9(k:Nat)(P:List F)(z:F):List (List F):=match k with
 | 0=>[]
 | 1=>[[z]]
 | _=>((P++[z]).map fun x=>[z,x])++P.map fun y=>[y,z]
def jG(r:dP F)(ts:List (List F))(h:F):Nat:=(ts.filterMap r.inst).count h
def iy(l:List F)(h:F):Nat:=l.count h
def hasB(L:List F)(f:F):Bool:=decide (f∈L)
theorem yy{L:List F}{f:F}:hasB L f=true↔f∈L:=by simp[hasB]
theorem Dv{a b:List F}(h:List.Perm a b)(f:F):iy a f=iy b f:=h.count_eq f
theorem Fq(x:F)(l:List F)(f:F):iy (x::l) f=iy l f+if x=f then 1 else 0:=by
 unfold iy
 rw[List.count_cons]
 by_cases h:x=f<;>simp[h]
theorem B7(r:dP F)(ts:List (List F))(h:F):jG r ts h=iy (ts.filterMap r.inst) h:=rfl
theorem nr(r:dP F)(a b:List (List F))(h:F):jG r (a++b) h=jG r a h+jG r b h:=by simp[jG]
theorem R9(r:dP F)(h:F):jG r [] h=0:=rfl
theorem qf(r:dP F)(h:F)(z:F)(P:List F):∀Q:List F,jG r (Q.flatMap fun x=>(P++[z]).map fun y=>[x,y]) h=jG r (Q.flatMap fun x=>P.map fun y=>[x,y]) h+jG r (Q.map fun y=>[y,z]) h
 | []=>rfl
 | q::Q=>by
  have ih:=qf r h z P Q
  simp only[List.flatMap_cons,List.map_cons,List.map_append,List.map_nil,nr]at ih ⊢
  have e:jG r ([q,z]::Q.map fun y=>[y,z]) h=jG r [[q,z]] h+jG r (Q.map fun y=>[y,z]) h:=by
   rw[←nr];rfl
  rw[e]
  omega
theorem Et(r:dP F)(hk:r.k≤2)(P:List F)(z:F)(h:F):jG r (fX r.k (P++[z])) h=jG r (fX r.k P) h+jG r (n9 r.k P z) h:=by
 have:r.k=0∨r.k=1∨r.k=2:=by omega
 rcases this with e | e | e<;>rw[e]
 · simp[fX,n9,R9]
 · simp only[fX,n9,List.map_append,List.map_cons,List.map_nil,nr]
 · simp only[fX,n9,List.flatMap_append,List.flatMap_cons,List.flatMap_nil,List.append_nil,nr]
   rw[qf]
   omega
structure cU(F:Type) where
 found:List F
 count:F→Nat
def hold(s:cU F)(f:F)(n:Nat):cU F:=⟨if f∈s.found then s.found else s.found++[f],fun g=>if g=f then s.count g+n else s.count g⟩
def holds(s:cU F)(l:List F):cU F:=l.foldl (fun s f=>hold s f 1) s
def mm(R:List (dP F))(P:List F)(z:F):List F:=R.flatMap fun r=>(n9 r.k P z).filterMap r.inst
def meet(R:List (dP F))(s:cU F)(n:Nat):cU F:=match s.found[n]? with
 | none=>s
 | some z=>holds s (mm R (s.found.take n) z)
def search(R:List (dP F))(M:Nat):Nat→Nat→cU F→Option (cU F)
 | 0,_,_=>none
 | fuel+1,n,s=>if n<s.found.length then (if M<s.found.length then none else search R M fuel (n+1) (meet R s n))else some s
theorem holds_nil(s:cU F):holds s []=s:=rfl
theorem kJ(s:cU F)(f:F)(l:List F):holds s (f::l)=holds (hold s f 1) l:=rfl
theorem kp(s:cU F)(a b:List F):holds s (a++b)=holds (holds s a) b:=by simp[holds]
theorem yF(s:cU F)(f:F)(n:Nat):∃t,(hold s f n).found=s.found++t∧(∀g,g∈t→g=f)∧f∈s.found++t:=by
 unfold hold
 by_cases h:f∈s.found
 · exact⟨[],by simp[h],by simp,by simpa using h⟩
 · exact⟨[f],by simp[h],by simp,by simp⟩
theorem wU{s:cU F}(h:s.found.Nodup)(f:F)(n:Nat):(hold s f n).found.Nodup:=by
 unfold hold
 by_cases hf:f∈s.found
 · simpa [hf]using h
 · simp only[hf,if_false]
   rw[List.nodup_append]
   exact⟨h,by simp,by simp;intro a ha e;exact hf (e▸ha)⟩
theorem iO(s:cU F)(f:F)(n:Nat)(g:F):(hold s f n).count g=s.count g+if g=f then n else 0:=by
 unfold hold
 by_cases h:g=f<;>simp[h]
theorem gA:∀(l:List F) (s:cU F),∃t,(holds s l).found=s.found++t∧(∀g,g∈t→g∈l)∧(∀g,g∈l→g∈s.found++t)∧(s.found.Nodup→(holds s l).found.Nodup)∧∀g,(holds s l).count g=s.count g+l.count g
 | [],s=>⟨[],by simp[holds_nil],by simp,by simp,fun h=>h,fun g=>by simp[holds_nil]⟩
 | f::l,s=>by
  obtain⟨t0,e0,a0,b0⟩:=yF s f 1
  obtain⟨t,e,a,b,c,d⟩:=gA l (hold s f 1)
  refine⟨t0++t, ?_, ?_, ?_, ?_, ?_⟩
  · rw[kJ,e,e0,List.append_assoc]
  · intro g hg
    rcases List.mem_append.1 hg with hg | hg
    · rw[a0 g hg];simp
    · exact List.mem_cons_of_mem _ (a g hg)
  · intro g hg
    rw[←List.append_assoc]
    rcases List.mem_cons.1 hg with rfl | hg
    · exact List.mem_append_left _ b0
    · have:=b g hg
      rwa [e0]at this
  · intro h
    rw[kJ]
    exact c (wU h f 1)
  · intro g
    rw[kJ,d,iO,List.count_cons]
    by_cases h:f=g
    · subst h;simp;omega
    · have h':¬g=f:=fun e=>h e.symm
      simp[h,h']
def yi(R:List (dP F))(X:F→Prop):Prop:=∀r,r∈R→∀fs,fs.length=r.k→(∀f,f∈fs→X f)→∀h,r.inst fs=some h→X h
theorem yG{F:Type}{k:Nat}(hk:k≤2){L:List F}{fs:List F}:fs∈fX k L↔fs.length=k∧∀f,f∈fs→f∈L:=by
 have:k=0∨k=1∨k=2:=by omega
 rcases this with e | e | e<;>subst e
 · constructor
   · intro h;simp[fX]at h;subst h;simp
   · rintro⟨h,_⟩;simp[fX];exact List.eq_nil_of_length_eq_zero h
 · constructor
   · intro h;simp[fX]at h;obtain⟨x,hx,rfl⟩:=h;simpa using hx
   · rintro⟨h,h2⟩
     match fs,h with
     | [x],_=>simp[fX];exact h2 x (by simp)
 · constructor
   · intro h;simp[fX]at h;obtain⟨x,hx,y,hy,rfl⟩:=h;simp[hx,hy]
   · rintro⟨h,h2⟩
     match fs,h with
     | [x,y],_=>simp[fX];exact⟨h2 x (by simp),h2 y (by simp)⟩
theorem MC{F:Type}{k:Nat}(hk:k≤2){P:List F}{z:F}{fs:List F}(h:fs∈n9 k P z):fs.length=k∧∀f,f∈fs→f∈P++[z]:=by
 have:k=0∨k=1∨k=2:=by omega
 rcases this with e | e | e<;>subst e
 · simp[n9]at h
 · simp[n9]at h;subst h;simp
 · simp only[n9,List.mem_append,List.mem_map]at h
   rcases h with⟨x,hx,rfl⟩ | ⟨y,hy,rfl⟩
   · refine⟨rfl, ?_⟩
     intro f hf
     simp at hf
     rcases hf with rfl | rfl
     · simp
     · simpa using hx
   · refine⟨rfl, ?_⟩
     intro f hf
     simp at hf
     rcases hf with rfl | rfl
     · simp[hy]
     · simp
def total(R:List (dP F))(L:List F)(h:F):Nat:=(R.map fun r=>jG r (fX r.k L) h).sum
structure Inv(R:List (dP F))(G:F→Prop)(s:cU F)(n:Nat):Prop where
 nodup:s.found.Nodup
 given:∀f,G f→f∈s.found
 counts:∀h,s.count h=total R (s.found.take n) h
 done:∀r,r∈R→∀fs,fs∈fX r.k (s.found.take n)→∀h,r.inst fs=some h→h∈s.found
 least:∀X,yi R X→(∀f,G f→X f)→∀f,f∈s.found→X f
theorem uj(P:List F)(z h:F):∀R:List (dP F),(∀r,r∈R→r.k≤2)→total R (P++[z]) h=total R P h+(mm R P z).count h
 | [],_=>rfl
 | r::R,hR=>by
  have ih:=uj P z h R (fun x hx=>hR x (by simp[hx]))
  unfold total mm at*
  simp only[List.map_cons,List.sum_cons,List.flatMap_cons,List.count_append]
  rw[Et r (hR r (by simp)),ih]
  have e:(List.filterMap r.inst (n9 r.k P z)).count h=jG r (n9 r.k P z) h:=rfl
  rw[e]
  omega
theorem DU{R:List (dP F)}(hR:∀r,r∈R→r.k≤2){G:F→Prop}{s:cU F}{n:Nat}(h:Inv R G s n)(hn:n<s.found.length):Inv R G (meet R s n) (n+1):=by
 have hz:s.found[n]?=some s.found[n]:=List.getElem?_eq_getElem hn
 unfold meet
 rw[hz]
 simp only
 obtain⟨t,e,a,b,c,d⟩:=gA (mm R (s.found.take n) s.found[n]) s
 have sO:(holds s (mm R (s.found.take n) s.found[n])).found.take (n+1)=s.found.take n++[s.found[n]]:=by
  rw[e,List.take_append_of_le_length (by omega),List.take_succ_eq_append_getElem hn]
 have aa2:∀f,f∈s.found.take n++[s.found[n]]→f∈s.found:=by
  intro f hf
  rcases List.mem_append.1 hf with hf | hf
  · exact List.mem_of_mem_take hf
  · simp at hf;subst hf;exact List.getElem_mem hn
 refine⟨c h.nodup, ?_, ?_, ?_, ?_⟩
 · intro f hf
   rw[e]
   exact List.mem_append_left _ (h.given f hf)
 · intro g
   rw[sO,d,h.counts,uj _ _ _ R hR]
 · intro r hr fs F5 g hg
   rw[sO]at F5
   have hk:=hR r hr
   rw[e]
   have adb:=Et r hk (s.found.take n) s.found[n] g
   have Fx:0<jG r (fX r.k (s.found.take n++[s.found[n]])) g:=by
    unfold jG
    rw[List.count_pos_iff,List.mem_filterMap]
    exact⟨fs,F5,hg⟩
   by_cases hz:0<jG r (fX r.k (s.found.take n)) g
   · unfold jG at hz
     rw[List.count_pos_iff,List.mem_filterMap]at hz
     obtain⟨fs',h1,h2⟩:=hz
     exact List.mem_append_left _ (h.done r hr fs' h1 g h2)
   · have eA:0<jG r (n9 r.k (s.found.take n) s.found[n]) g:=by omega
     unfold jG at eA
     rw[List.count_pos_iff,List.mem_filterMap]at eA
     obtain⟨fs',h1,h2⟩:=eA
     exact b g (List.mem_flatMap.2 ⟨r,hr,List.mem_filterMap.2 ⟨fs',h1,h2⟩⟩)
 · intro X hX hG f hf
   rw[e]at hf
   rcases List.mem_append.1 hf with hf | hf
   · exact h.least X hX hG f hf
   · obtain⟨r,hr,hm⟩:=List.mem_flatMap.1 (a f hf)
     obtain⟨fs,h1,h2⟩:=List.mem_filterMap.1 hm
     obtain⟨h3,h4⟩:=MC (hR r hr) h1
     exact hX r hr fs h3 (fun g hg=>h.least X hX hG g (aa2 g (h4 g hg))) f h2
theorem qB{R:List (dP F)}(hR:∀r,r∈R→r.k≤2){M:Nat}{G:F→Prop}:∀(fuel n:Nat) (s s':cU F),Inv R G s n→n≤s.found.length→search R M fuel n s=some s'→Inv R G s' s'.found.length
 | 0,_,_,_,_,_,h=>by simp[search]at h
 | fuel+1,n,s,s',hi,hn,h=>by
  unfold search at h
  by_cases h1:n<s.found.length
  · rw[if_pos h1]at h
    by_cases h2:M<s.found.length
    · rw[if_pos h2]at h;cases h
    · rw[if_neg h2]at h
      refine qB hR fuel (n+1) _ s' (DU hR hi h1) ?_ h
      have hz:s.found[n]?=some s.found[n]:=List.getElem?_eq_getElem h1
      unfold meet
      rw[hz]
      simp only
      obtain⟨t,e,_⟩:=gA (mm R (s.found.take n) s.found[n]) s
      rw[e,List.length_append]
      omega
  · rw[if_neg h1]at h
    simp only[Option.some.injEq]at h
    subst h
    have:n=s.found.length:=by omega
    rw[←this]
    exact hi
theorem uU{R:List (dP F)}(hR:∀r,r∈R→r.k≤2){M:Nat}{G:F→Prop}(U:List F)(hU:U.length≤M)(hc:yi R (· ∈U))(hG:∀f,G f→f∈U):∀(fuel n:Nat) (s:cU F),Inv R G s n→n≤s.found.length→M<fuel+n→∃s',search R M fuel n s=some s'
 | 0,n,s,hi,hn,hf=>by
  have hl:s.found.length≤U.length:=List.Nodup.length_le_of_subset hi.nodup (fun f hf=>hi.least (· ∈U) hc hG f hf)
  omega
 | fuel+1,n,s,hi,hn,hf=>by
  have hl:s.found.length≤U.length:=List.Nodup.length_le_of_subset hi.nodup (fun f hf=>hi.least (· ∈U) hc hG f hf)
  unfold search
  by_cases h1:n<s.found.length
  · rw[if_pos h1,if_neg (by omega)]
    refine uU hR U hU hc hG fuel (n+1) _ (DU hR hi h1) ?_ (by omega)
    have hz:s.found[n]?=some s.found[n]:=List.getElem?_eq_getElem h1
    unfold meet
    rw[hz]
    simp only
    obtain⟨t,e,_⟩:=gA (mm R (s.found.take n) s.found[n]) s
    rw[e,List.length_append]
    omega
  · rw[if_neg h1]
    exact⟨s,rfl⟩
end
end En
/- Bindings: by which names a rule's body becomes facts. No program here. -/
namespace En
def ee:ByteArray:=⟨#[]⟩
abbrev Bind:=List (ByteArray×ByteArray)
def val(b:Bind)(x:ByteArray):ByteArray:=match b with
 | []=>ee
 | p::r=>if p.1=x then p.2 else val r x
def dD(s:ByteArray→ByteArray)(t:Ax.Term):ByteArray:=if t.kind=0 then t.text else s t.text
def eC:List Ax.Term→List ByteArray→Bind→Option Bind
 | [],_,b=>some b
 | _::_,[],_=>none
 | t::ts,n::ns,b=>if dD (val b) t=n then eC ts ns b else if dD (val b) t=ee then eC ts ns (b++[(t.text,n)])else none
def Full(b:Bind):Prop:=∀p,p∈b→p.2≠ee
theorem sI(b:Bind)(hb:Full b)(x n y:ByteArray):val (b++[(x,n)]) y=if val b y=ee then (if x=y then n else ee)else val b y:=by
 induction b with
 | nil=>simp[val]
 | cons p r ih=>
  have hp:=hb p (by simp)
  rw[List.cons_append,val,val]
  by_cases h:p.1=y
  · rw[if_pos h,if_pos h,if_neg hp]
  · rw[if_neg h,if_neg h]
    exact ih (fun q hq=>hb q (by simp[hq]))
theorem Al{b:Bind}(hb:Full b)(x:ByteArray){n:ByteArray}(hn:n≠ee):Full (b++[(x,n)]):=by
 intro p hp
 rcases List.mem_append.1 hp with hp | hp
 · exact hb p hp
 · simp at hp;subst hp;exact hn
def qp(ts:List Ax.Term):Prop:=∀t,t∈ts→t.kind=0→t.text≠ee
theorem nk:∀(ts:List Ax.Term) (ns:List ByteArray) (b b':Bind),qp ts→Full b→(∀n,n∈ns.take ts.length→n≠ee)→eC ts ns b=some b'→
 Full b'∧(∀y,val b y≠ee→val b' y=val b y)∧(∀(j:Nat) t,ts[j]?=some t→ns[j]?=some (dD (val b') t))∧(∀y,val b' y≠ee→val b y≠ee∨∃t,t∈ts∧t.kind≠0∧t.text=y)
 | [],ns,b,b',_,hb,_,h=>by
  simp only[eC,Option.some.injEq]at h
  subst h
  exact⟨hb,fun _ _=>rfl,fun j t ht=>by simp at ht,fun y hy=>.inl hy⟩
 | t::ts,[],b,b',_,_,_,h=>by simp[eC]at h
 | t::ts,n::ns,b,b',hN,hb,hn,h=>by
  have hN':qp ts:=fun u hu=>hN u (by simp[hu])
  have hn0:n≠ee:=hn n (by simp)
  have LR:∀m,m∈ns.take ts.length→m≠ee:=fun m hm=>hn m (by simp[hm])
  rw[eC]at h
  by_cases h1:dD (val b) t=n
  · rw[if_pos h1]at h
    obtain⟨a1,a2,a3,a4⟩:=nk ts ns b b' hN' hb LR h
    refine⟨a1,a2, ?_, ?_⟩
    · intro j u hu
      cases j with
      | zero=>
       simp at hu
       subst hu
       simp only[List.getElem?_cons_zero,Option.some.injEq]
       rw[←h1]
       unfold dD at h1 ⊢
       by_cases hk:t.kind=0
       · rw[if_pos hk,if_pos hk]
       · rw[if_neg hk]at h1
         rw[if_neg hk,if_neg hk,a2 _ (by rw[h1];exact hn0)]
      | succ j=>simpa using a3 j u (by simpa using hu)
    · intro y hy
      rcases a4 y hy with h2 | ⟨u,hu,h2⟩
      · exact .inl h2
      · exact .inr ⟨u,by simp[hu],h2⟩
  · rw[if_neg h1]at h
    by_cases h2:dD (val b) t=ee
    · rw[if_pos h2]at h
      have hk:t.kind≠0:=by
       intro hk
       unfold dD at h2
       rw[if_pos hk]at h2
       exact hN t (by simp) hk h2
      have hv:val b t.text=ee:=by
       unfold dD at h2
       rwa [if_neg hk]at h2
      obtain⟨a1,a2,a3,a4⟩:=nk ts ns _ b' hN' (Al hb t.text hn0) LR h
      have OR:val b' t.text=n:=by
       have e:val (b++[(t.text,n)]) t.text=n:=by rw[sI b hb,if_pos hv,if_pos rfl]
       rw[a2 _ (by rw[e];exact hn0),e]
      refine⟨a1, ?_, ?_, ?_⟩
      · intro y hy
        have e:val (b++[(t.text,n)]) y=val b y:=by rw[sI b hb,if_neg hy]
        rw[a2 _ (by rw[e];exact hy),e]
      · intro j u hu
        cases j with
        | zero=>
         simp at hu
         subst hu
         simp only[List.getElem?_cons_zero,Option.some.injEq]
         unfold dD
         rw[if_neg hk,OR]
        | succ j=>simpa using a3 j u (by simpa using hu)
      · intro y hy
        rcases a4 y hy with h3 | ⟨u,hu,h3⟩
        · rw[sI b hb]at h3
          by_cases WV:val b y=ee
          · rw[if_pos WV]at h3
            by_cases Rg:t.text=y
            · exact .inr ⟨t,by simp,hk,Rg⟩
            · rw[if_neg Rg]at h3;exact absurd rfl h3
          · exact .inl WV
        · exact .inr ⟨u,by simp[hu],h3⟩
    · rw[if_neg h2]at h
      cases h
theorem jM(s:ByteArray→ByteArray)(hs:∀y,s y≠ee):∀(ts:List Ax.Term) (ns:List ByteArray) (b:Bind),Full b→(∀y,val b y≠ee→s y=val b y)→(∀(j:Nat) t,ts[j]?=some t→ns[j]?=some (dD s t))→
 ∃b',eC ts ns b=some b'∧(∀y,val b' y≠ee→s y=val b' y)
 | [],ns,b,_,hv,_=>⟨b,rfl,hv⟩
 | t::ts,[],b,_,_,h=>by simpa using h 0 t rfl
 | t::ts,n::ns,b,hb,hv,h=>by
  have h0:n=dD s t:=by simpa using h 0 t rfl
  have h':∀(j:Nat) u,ts[j]?=some u→ns[j]?=some (dD s u):=fun j u hu=>by simpa using h (j+1) u (by simpa using hu)
  rw[eC]
  by_cases h1:dD (val b) t=n
  · rw[if_pos h1]
    exact jM s hs ts ns b hb hv h'
  · rw[if_neg h1]
    have hk:t.kind≠0:=by
     intro hk
     apply h1
     rw[h0]
     unfold dD
     rw[if_pos hk,if_pos hk]
    have hn:n=s t.text:=by
     rw[h0]
     unfold dD
     rw[if_neg hk]
    have h2:dD (val b) t=ee:=by
     unfold dD at h1 ⊢
     rw[if_neg hk]at h1 ⊢
     apply Classical.byContradiction
     intro hc
     exact h1 (by rw[hn,hv _ hc])
    rw[if_pos h2]
    have hvt:val b t.text=ee:=by
     unfold dD at h2
     rwa [if_neg hk]at h2
    refine jM s hs ts ns _ (Al hb _ (by rw[hn];exact hs _)) ?_ h'
    intro y hy
    rw[sI b hb]at hy ⊢
    by_cases WV:val b y=ee
    · rw[if_pos WV]at hy ⊢
      by_cases Rg:t.text=y
      · rw[if_pos Rg,hn,Rg]
      · rw[if_neg Rg]at hy;exact absurd rfl hy
    · rw[if_neg WV]
      exact hv y WV
abbrev bE:=ByteArray×List ByteArray
def dd(a:Ax.Atom)(f:bE)(b:Bind):Option Bind:=if a.pred=f.1 then eC a.ag f.2 b else none
def pad(l:List ByteArray):List ByteArray:=l++List.replicate (3-l.length) ee
def dj(s:ByteArray→ByteArray)(a:Ax.Atom):bE:=(a.pred,pad (a.ag.map (dD s)))
def ff:List Ax.Atom→List bE→Bind→Option Bind
 | [],[],b=>some b
 | a::az,f::fs,b=>match dd a f b with | some b'=>ff az fs b' | none=>none
 | _,_,_=>none
def gM(r:Ax.aP)(fs:List bE):Option bE:=(ff r.body fs []).map fun b=>dj (val b) r.head
def cp(r:Ax.aP):dP bE:=⟨r.body.length,gM r⟩
def Aa(a:Ax.Atom)(f:bE):Prop:=a.pred=f.1→∃l:List ByteArray,l.length=a.ag.length∧(∀n,n∈l→n≠ee)∧f.2=pad l
theorem Cv{l:List ByteArray}{j:Nat}(h:j<l.length):(pad l)[j]?=l[j]?:=by
 unfold pad
 rw[List.getElem?_append_left h]
theorem wh(l:List ByteArray):(pad l).take l.length=l:=by simp[pad]
theorem rG{a:Ax.Atom}{f:bE}{b b':Bind}(hN:qp a.ag)(hf:Aa a f)(hb:Full b)(h:dd a f b=some b'):
 Full b'∧(∀y,val b y≠ee→val b' y=val b y)∧dj (val b') a=f∧(∀t,t∈a.ag→t.kind≠0→val b' t.text≠ee):=by
 unfold dd at h
 by_cases hp:a.pred=f.1
 · rw[if_pos hp]at h
   obtain⟨l,hl,cL,Nf⟩:=hf hp
   rw[Nf]at h
   obtain⟨a1,a2,a3,a4⟩:=nk a.ag (pad l) b b' hN hb (by rw[←hl,wh];exact cL) h
   have hbound:∀t,t∈a.ag→t.kind≠0→val b' t.text≠ee:=by
    intro t ht hk
    obtain⟨j,hj,e⟩:=List.getElem_of_mem ht
    have h3:=a3 j t (by rw[List.getElem?_eq_getElem hj,e])
    rw[Cv (by omega)]at h3
    have hm:=cL _ (List.mem_of_getElem? h3)
    unfold dD at hm
    rwa [if_neg hk]at hm
   refine⟨a1,a2, ?_,hbound⟩
   have e:a.ag.map (dD (val b'))=l:=by
    apply List.ext_getElem?
    intro j
    rw[List.getElem?_map]
    cases hj:a.ag[j]? with
    | none=>
     rw[List.getElem?_eq_none_iff]at hj
     rw[Option.map_none,List.getElem?_eq_none (by omega)]
    | some t=>
     have Lh:=(List.getElem?_eq_some_iff.1 hj).1
     have:=a3 j t hj
     rw[Cv (by omega)]at this
     rw[this]
     rfl
   unfold dj
   rw[e,hp,←Nf]
 · rw[if_neg hp]at h;cases h
theorem vt(s:ByteArray→ByteArray)(hs:∀y,s y≠ee){a:Ax.Atom}{b:Bind}(hb:Full b)(hv:∀y,val b y≠ee→s y=val b y):∃b',dd a (dj s a) b=some b'∧(∀y,val b' y≠ee→s y=val b' y):=by
 unfold dd
 have hp:a.pred=(dj s a).1:=rfl
 rw[if_pos hp]
 refine jM s hs a.ag _ b hb hv ?_
 intro j t ht
 have hj:=(List.getElem?_eq_some_iff.1 ht).1
 show(pad (a.ag.map (dD s)))[j]?=_
 rw[Cv (by simpa using hj),List.getElem?_map,ht]
 rfl
end En
/- What a rule makes of facts: just its instances. No program here. -/
namespace En
def YT(b:Bind)(a:Ax.Atom):Prop:=∀t,t∈a.ag→t.kind≠0→val b t.text≠ee
theorem lG{s u:ByteArray→ByteArray}{a:Ax.Atom}(h:∀t,t∈a.ag→t.kind≠0→s t.text=u t.text):dj s a=dj u a:=by
 unfold dj
 have e:a.ag.map (dD s)=a.ag.map (dD u):=by
  apply List.map_congr_left
  intro t ht
  unfold dD
  by_cases hk:t.kind=0
  · rw[if_pos hk,if_pos hk]
  · rw[if_neg hk,if_neg hk,h t ht hk]
 rw[e]
theorem ox:∀(az:List Ax.Atom) (fs:List bE) (b b':Bind),(∀a,a∈az→qp a.ag)→(∀x,x∈az.zip fs→Aa x.1 x.2)→Full b→ff az fs b=some b'→
 Full b'∧(∀y,val b y≠ee→val b' y=val b y)∧fs=az.map (dj (val b'))∧(∀a,a∈az→YT b' a)
 | [],[],b,b',_,_,hb,h=>by
  simp only[ff,Option.some.injEq]at h
  subst h
  exact⟨hb,fun _ _=>rfl,rfl,fun a ha=>by cases ha⟩
 | [],f::fs,b,b',_,_,_,h=>by simp[ff]at h
 | a::az,[],b,b',_,_,_,h=>by simp[ff]at h
 | a::az,f::fs,b,b',hN,hF,hb,h=>by
  rw[ff]at h
  cases hm:dd a f b with
  | none=>rw[hm]at h;cases h
  | some b1=>
   rw[hm]at h
   simp only at h
   obtain⟨c1,c2,c3,c4⟩:=rG (hN a (by simp)) (hF (a,f) (by simp)) hb hm
   obtain⟨d1,d2,d3,d4⟩:=ox az fs b1 b' (fun x hx=>hN x (by simp[hx])) (fun x hx=>hF x (by simp[hx])) c1 h
   refine⟨d1, ?_, ?_, ?_⟩
   · intro y hy
     have e:=c2 y hy
     rw[d2 y (by rw[e];exact hy),e]
   · have c3':f=dj (val b1) a:=c3.symm
     rw[List.map_cons,←d3,c3']
     congr 1
     exact lG (fun t ht hk=>(d2 _ (c4 t ht hk)).symm)
   · intro x hx
     rcases List.mem_cons.1 hx with rfl | hx
     · intro t ht hk
       have e:=d2 _ (c4 t ht hk)
       rw[e]
       exact c4 t ht hk
     · exact d4 x hx
theorem o7(s:ByteArray→ByteArray)(hs:∀y,s y≠ee):∀(az:List Ax.Atom) (b:Bind),(∀a,a∈az→qp a.ag)→(∀x,x∈az.zip (az.map (dj s))→Aa x.1 x.2)→Full b→(∀y,val b y≠ee→s y=val b y)→
 ∃b',ff az (az.map (dj s)) b=some b'∧(∀y,val b' y≠ee→s y=val b' y)
 | [],b,_,_,_,hv=>⟨b,rfl,hv⟩
 | a::az,b,hN,hF,hb,hv=>by
  obtain⟨b1,h1,h2⟩:=vt s hs (a:=a) hb hv
  obtain⟨c1,_⟩:=rG (hN a (by simp)) (hF (a,dj s a) (by simp)) hb h1
  obtain⟨b',h3,h4⟩:=o7 s hs az b1 (fun x hx=>hN x (by simp[hx])) (fun x hx=>hF x (by simp[hx])) c1 h2
  refine⟨b', ?_,h4⟩
  rw[List.map_cons,ff,h1]
  exact h3
def Safe(r:Ax.aP):Prop:=∀t,t∈r.head.ag→t.kind≠0→∃a,a∈r.body∧∃u,u∈a.ag∧u.kind≠0∧u.text=t.text
def DO(r:Ax.aP):Prop:=∀a,a∈r.body→qp a.ag
theorem A5{r:Ax.aP}(hS:Safe r)(hN:DO r){fs:List bE}(hF:∀x,x∈r.body.zip fs→Aa x.1 x.2)(h:bE):
 gM r fs=some h↔∃s:ByteArray→ByteArray,(∀y,s y≠ee)∧fs=r.body.map (dj s)∧h=dj s r.head:=by
 have hE:Full []:=fun p hp=>by cases hp
 constructor
 · intro hr
   unfold gM at hr
   cases hm:ff r.body fs []with
   | none=>rw[hm]at hr;cases hr
   | some b=>
    rw[hm]at hr
    simp only[Option.map_some,Option.some.injEq]at hr
    obtain⟨_,_,c3,c4⟩:=ox r.body fs [] b hN hF hE hm
    refine⟨fun y=>if val b y=ee then ⟨#[97]⟩else val b y, ?_, ?_, ?_⟩
    · intro y
      by_cases hy:val b y=ee
      · simp only[hy,if_true]
        decide
      · simp only[hy,if_false]
        exact hy
    · rw[c3]
      apply List.map_congr_left
      intro a ha
      apply lG
      intro t ht hk
      rw[if_neg (c4 a ha t ht hk)]
    · rw[←hr]
      apply lG
      intro t ht hk
      obtain⟨a,ha,u,hu,BZ,e⟩:=hS t ht hk
      have DB:=c4 a ha u hu BZ
      rw[e]at DB
      rw[if_neg DB]
 · rintro⟨s,hs,rfl,rfl⟩
   obtain⟨b,h1,h2⟩:=o7 s hs r.body [] hN hF hE (fun y hy=>absurd rfl hy)
   obtain⟨_,_,c3,c4⟩:=ox r.body _ [] b hN hF hE h1
   unfold gM
   rw[h1]
   simp only[Option.map_some,Option.some.injEq]
   apply lG
   intro t ht hk
   obtain⟨a,ha,u,hu,BZ,e⟩:=hS t ht hk
   have DB:=c4 a ha u hu BZ
   rw[e]at DB
   exact(h2 _ DB).symm
end En
end Go.Proofs.YtdmicblafmhflaaGreatDoor
