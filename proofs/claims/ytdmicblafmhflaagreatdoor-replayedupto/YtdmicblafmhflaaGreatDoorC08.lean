/- axiomkeep: pick, name, places, pred, term. -/
import Derived.Test.YtdmicblafmhflaaGreatDoorC03
import Derived.Test.YtdmicblafmhflaaGreatDoorC07
import Derived.Test.YtdmicblafmhflaaGreatDoorC00
import Derived.Deep.RegionWith
import Derived.Below
set_option linter.unusedSimpArgs false
set_option linter.unusedVariables false
set_option maxHeartbeats 2000000
set_option maxRecDepth 100000
namespace Go.Proofs.YtdmicblafmhflaaGreatDoor
section
open Go.RowKit
def cr(c:Int):Prop:= -9223372036854775808≤c∧c≤9223372036854775807
theorem sr{c:Int}{n:Nat}{d:Int}(hd:(if c<0 then-(c+1)else c)=d)(h0:0≤d)(hn:0<n):d.tmod (n:Int)=((Ax.bk c n:Nat):Int):=by
 unfold Ax.bk
 rw[hd,Int.tmod_eq_emod_of_nonneg h0]
 have:=Int.emod_nonneg d (show(n:Int)≠0 by omega)
 omega
theorem oW(c:Int)(n:Nat)(w:World)(hc:cr c)(hn:0<n)(Bt:n≤1000):Calls Tryz.prog 27 #[.int .i64 c,.int .i64 n] w fun e w'=>e=.returned (.int .i64 (Ax.bk c n))∧w'=w:=by
 obtain⟨h1,h2⟩:=hc
 by_cases h:c<0
 · have hb:decide (c<0)=true:=by simpa using h
   have e:=sr (c:=c) (n:=n) (d:= -(c+1)) (by rw[if_pos h]) (by omega) hn
   go_enter Tryz.func27,Tryz.ntmps27
   go_wp2
   go_ret
   exact⟨by rw[←e];rfl,rfl⟩
 · have hb:decide (c<0)=false:=by simpa using h
   have e:=sr (c:=c) (n:=n) (d:=c) (by rw[if_neg h]) (by omega) hn
   go_enter Tryz.func27,Tryz.ntmps27
   go_wp2
   go_ret
   exact⟨by rw[←e];rfl,rfl⟩
theorem sy(c:Int)(n k:Nat)(hc:cr c)(hn:0<n)(Bt:n≤1000)(hk:Ax.bk c n=k)(N:Int)(hN:N=n):∀w,Calls Tryz.prog 27 #[.int .i64 c,.int .i64 N] w fun e w'=>e=.returned (.int .i64 k)∧w'=w:=by
 subst hk hN
 exact fun w=>oW c n w hc hn Bt
theorem DG(c:Int)(w:World)(hc:cr c):Calls Tryz.prog 124 #[.int .i64 c] w fun e w'=>e=.returned (.int .i64 (Ax.bk c 7))∧w'=w:=by
 have hp:=sy c 7 _ hc (by decide) (by decide) rfl 7 rfl
 go_enter Tryz.func124,Tryz.ntmps124
 go_wp2_with (go_at_call 27;refine(hp _).mono ?_;rintro e w1 ⟨rfl,rfl⟩)
 go_ret
 exact⟨rfl,rfl⟩
theorem vY(c:Int)(w:World)(hc:cr c):Calls Tryz.prog 19 #[.int .i64 c] w fun e w'=>e=.returned (.int .i64 (if Ax.bk c 3=0 then 1 else 2))∧w'=w:=by
 obtain⟨k,hk⟩:∃k,Ax.bk c 3=k:=⟨_,rfl⟩
 have hp:=sy c 3 k hc (by decide) (by decide) hk 3 rfl
 rw[hk]
 by_cases h0:k=0
 · subst h0
   go_enter Tryz.func19,Tryz.ntmps19
   go_wp2_with (go_at_call 27;refine(hp _).mono ?_;rintro e w1 ⟨rfl,rfl⟩)
   go_ret
   exact⟨rfl,rfl⟩
 · have hb:(((k:Nat):Int)==0)=false:=by simp;omega
   rw[if_neg h0]
   go_enter Tryz.func19,Tryz.ntmps19
   go_wp2_with (go_at_call 27;refine(hp _).mono ?_;rintro e w1 ⟨rfl,rfl⟩)
   go_ret
   exact⟨rfl,rfl⟩
theorem C7(c:Int)(w:World)(hc:cr c):Calls Tryz.prog 18 #[.int .i64 c] w fun e w'=>e=.returned (.string (Ax.cu (Ax.bk c 3)))∧Below w.heap.size w w':=by
 obtain⟨k,hk⟩:∃k,Ax.bk c 3=k:=⟨_,rfl⟩
 have aE:k<3:=by rw[←hk];exact Ax.eB c 3 (by decide)
 have hp:=sy c 3 k hc (by decide) (by decide) hk 3 rfl
 rw[hk]
 clear hk
 have:k=0∨k=1∨k=2:=by omega
 rcases this with rfl | rfl | rfl
 all_goals (go_enter Tryz.func18,Tryz.ntmps18)
 all_goals (go_wp2_with (go_at_call 27;refine(hp _).mono ?_;rintro e w1 ⟨rfl,rfl⟩))
 all_goals go_ret
 all_goals exact⟨rfl,(Below.refl _ _).alloc (Nat.le_refl _) _⟩
theorem qU(c:Int)(w:World)(hc:cr c):Calls Tryz.prog 122 #[.int .i64 c] w fun e w'=>e=.returned (.string (Ax.cf (Ax.bk c 4)))∧Below w.heap.size w w':=by
 obtain⟨k,hk⟩:∃k,Ax.bk c 4=k:=⟨_,rfl⟩
 have aE:k<4:=by rw[←hk];exact Ax.eB c 4 (by decide)
 have hp:=sy c 4 k hc (by decide) (by decide) hk 4 rfl
 rw[hk]
 clear hk
 have:k=0∨k=1∨k=2∨k=3:=by omega
 rcases this with rfl | rfl | rfl | rfl
 all_goals (go_enter Tryz.func122,Tryz.ntmps122)
 all_goals (go_wp2_with (go_at_call 27;refine(hp _).mono ?_;rintro e w1 ⟨rfl,rfl⟩))
 all_goals go_ret
 all_goals exact⟨rfl,(Below.refl _ _).alloc (Nat.le_refl _) _⟩
end
/- axiomkeep: terms, in. -/
section
open Go.RowKit
def aA(l:List Nat):List Value:=l.map fun (n:Nat)=>.int .i64 (n:Int)
theorem rI(l:List Nat)(k:Nat)(h:k<l.length):(aA l)[k]?=some (.int .i64 l[k]):=by simp[aA,h]
theorem sG{w:World}{b:Nat}{e:TypeId}{xs:List Value}{n:Nat}(hs:xs.length=n)(hn:n≤1000)(hb:b≤w.heap.size):(w.alloc (.cells xs.toArray e)).ownsRow b e 1 (.slice (some ⟨w.heap.size,0,none⟩) n n) n xs:=
 ⟨by omega,.inr ⟨w.heap.size,n,xs.toArray,rfl,hb,heap_alloc_new _ _,Nat.le_refl _,by unfold maxLen;omega,by simp[hs],by simp[←hs]⟩⟩
theorem Sl{w:World}{o:Obj}{b:Nat}{e:TypeId}{xs:List Value}{n:Nat}(hs:xs.length=n)(hn:n≤1000)(hb:b≤w.heap.size):((w.alloc o).alloc (.cells xs.toArray e)).ownsRow b e 1 (.slice (some ⟨w.heap.size+1,0,none⟩) n n) n xs:=by
 have:=sG (w:=w.alloc o) (b:=b) (e:=e) (xs:=xs) (n:=n) hs hn (by simp;omega)
 rw[World.size_alloc]at this
 exact this
theorem qu(w:World)(a:Ax.dV)(hp:cr a.pred)(ha:cr a.a)(hb:cr a.b):Calls Tryz.prog 64 #[.agg #[.int .i64 a.pred,.int .i64 a.a,.int .i64 a.b]] w fun e w'=>∃d c,e=.returned (.slice d (Ax.bW a).length c)∧w'.ownsRow w.heap.size 3 1 (.slice d (Ax.bW a).length c) (Ax.bW a).length (aA (Ax.bW a))∧Below w.heap.size w w':=by
 have kY:=fun w=>vY a.pred w hp
 have VC:=fun w=>DG a.a w ha
 have VQ:=fun w=>DG a.b w hb
 unfold Ax.bW
 by_cases h0:Ax.bk a.pred 3=0
 · simp only[h0,if_true]at kY ⊢
   generalize Ax.bk a.a 7=x at*
   generalize Ax.bk a.b 7=y at*
   clear VQ
   go_enter Tryz.func64,Tryz.ntmps64
   go_wp2_with (first | (go_at_call 19;refine(kY _).mono ?_;rintro e w1 ⟨rfl,rfl⟩) | (go_at_call 124;refine(VC _).mono ?_;rintro e w2 ⟨rfl,rfl⟩))
   go_ret
   exact⟨_,_,rfl,Sl (xs:=aA [x]) (n:=1) rfl (by decide) (Nat.le_refl _),((Below.refl _ _).alloc (Nat.le_refl _) _).alloc (by simp) _⟩
 · simp only[h0,if_false]at kY ⊢
   generalize Ax.bk a.a 7=x at*
   generalize Ax.bk a.b 7=y at*
   go_enter Tryz.func64,Tryz.ntmps64
   go_wp2_with (first | (go_at_call 19;refine(kY _).mono ?_;rintro e w1 ⟨rfl,rfl⟩))
   go_region_with (first | (go_at_call_of 124 (Value.int IntKind.i64 a.a);refine(VC _).mono ?_;rintro e w2 ⟨rfl,rfl⟩) | (go_at_call 124;refine(VQ _).mono ?_;rintro e w2 ⟨rfl,rfl⟩))
   all_goals (go_wp2_with fail)
   all_goals go_ret
   all_goals exact⟨_,_,rfl,Sl (xs:=aA [x,y]) (n:=2) rfl (by decide) (Nat.le_refl _),(((Below.refl _ _).alloc (Nat.le_refl _) _).alloc (by simp) _).drew⟩
theorem Va(w:World)(b:Nat)(ld:Option Addr)(lc:Nat)(l:List Nat)(h:w.ownsRow b 3 1 (.slice ld l.length lc) l.length (aA l))(n:Nat):Calls Tryz.prog 123 #[.slice ld l.length lc,.int .i64 n] w fun e w'=>e=.returned (.bool (decide (n∈l)))∧w'=w:=by
 have hle:=bh h
 generalize hR:decide (n∈l)=R
 go_enter Tryz.func123,Tryz.ntmps123
 go_wp2_with fail
 go_loopw [5] (fun iv wr=>∃(i:Nat),i≤l.length∧iv=.int .i64 i∧wr=w∧∀k (hk:k<l.length),k<i→l[k]≠n) (fun iv _=>l.length-(intOf iv).toNat)
 case atStart=>exact⟨0,Nat.zero_le _,rfl,rfl,fun k _ hk=>by omega⟩
 case round=>
  obtain⟨i,hi,rfl,PC,iM⟩:=hrel
  subst PC
  have Cw:Hid (∀k (hk:k<l.length),k<i→l[k]≠n):=iM
  clear iM
  by_cases aE:i<l.length
  · obtain⟨g,rfl,hg,hc,bH⟩:=aD h (by omega)
    have c0:=bH _ _ (rI l i aE)
    clear bH
    obtain⟨x,hx⟩:∃x,l[i]=x:=⟨_,rfl⟩
    rw[hx]at c0
    have HX:Hid (l[i]=x):=hx
    clear hx
    by_cases e:x=n
    · have hb:(((x:Nat):Int)==((n:Nat):Int))=true:=by simp[e]
      have HR:Hid (R=true):=by
       rw[←hR]
       show decide _=true
       rw[decide_eq_true_eq,←e,←HX.out]
       exact List.getElem_mem aE
      clear hR
      go_wp2_with fail
      go_ret
      exact⟨by rw[HR.out];rfl,rfl⟩
    · have hb:(((x:Nat):Int)==((n:Nat):Int))=false:=by simp;omega
      go_wp2_with fail
      go_roundw
      case rel=>
       refine⟨i+1,by omega,by go_num,trivial,fun k hk Z1=> ?_⟩
       by_cases ek:k=i
       · subst ek;rw[HX.out];exact e
       · exact Cw.out k hk (by omega)
      case measure=>simp[intOf];omega
  · have HR:Hid (R=false):=by
     rw[←hR]
     show decide _=false
     rw[decide_eq_false_iff_not]
     intro hm
     obtain⟨k,hk,e⟩:=List.getElem_of_mem hm
     exact Cw.out k hk (by omega) e
    clear hR
    go_wp2_with fail
    go_ret
    exact⟨by rw[HR.out];rfl,rfl⟩
end
/- What follows, worked out fact by fact: the search as a plain function, over facts and rules of any kind. No program here. -/
namespace En
structure eo(F:Type) where
 k:Nat
 inst:List F→Option F
section
variable {F : Type} [DecidableEq F]
def iA(k:Nat)(L:List F):List (List F):=match k with
 | 0=>[[]]
 | 1=>L.map fun x=>[x]
 | _=>L.flatMap fun x=>L.map fun y=>[x,y]
def nX(k:Nat)(P:List F)(z:F):List (List F):=match k with
 | 0=>[]
 | 1=>[[z]]
 | _=>((P++[z]).map fun x=>[z,x])++P.map fun y=>[y,z]
def lu(r:eo F)(ts:List (List F))(h:F):Nat:=(ts.filterMap r.inst).count h
def ib(l:List F)(h:F):Nat:=l.count h
def hasB(L:List F)(f:F):Bool:=decide (f∈L)
theorem x7{L:List F}{f:F}:hasB L f=true↔f∈L:=by simp[hasB]
theorem C3{a b:List F}(h:List.Perm a b)(f:F):ib a f=ib b f:=h.count_eq f
theorem EL(x:F)(l:List F)(f:F):ib (x::l) f=ib l f+if x=f then 1 else 0:=by
 unfold ib
 rw[List.count_cons]
 by_cases h:x=f<;>simp[h]
theorem Bc(r:eo F)(ts:List (List F))(h:F):lu r ts h=ib (ts.filterMap r.inst) h:=rfl
theorem nk(r:eo F)(a b:List (List F))(h:F):lu r (a++b) h=lu r a h+lu r b h:=by simp[lu]
theorem RB(r:eo F)(h:F):lu r [] h=0:=rfl
theorem pI(r:eo F)(h:F)(z:F)(P:List F):∀Q:List F,lu r (Q.flatMap fun x=>(P++[z]).map fun y=>[x,y]) h=lu r (Q.flatMap fun x=>P.map fun y=>[x,y]) h+lu r (Q.map fun y=>[y,z]) h
 | []=>rfl
 | q::Q=>by
  have ih:=pI r h z P Q
  simp only[List.flatMap_cons,List.map_cons,List.map_append,List.map_nil,nk]at ih ⊢
  have e:lu r ([q,z]::Q.map fun y=>[y,z]) h=lu r [[q,z]] h+lu r (Q.map fun y=>[y,z]) h:=by
   rw[←nk];rfl
  rw[e]
  omega
theorem Dt(r:eo F)(hk:r.k≤2)(P:List F)(z:F)(h:F):lu r (iA r.k (P++[z])) h=lu r (iA r.k P) h+lu r (nX r.k P z) h:=by
 have:r.k=0∨r.k=1∨r.k=2:=by omega
 rcases this with e | e | e<;>rw[e]
 · simp[iA,nX,RB]
 · simp only[iA,nX,List.map_append,List.map_cons,List.map_nil,nk]
 · simp only[iA,nX,List.flatMap_append,List.flatMap_cons,List.flatMap_nil,List.append_nil,nk]
   rw[pI]
   omega
structure dB(F:Type) where
 found:List F
 count:F→Nat
def hold(s:dB F)(f:F)(n:Nat):dB F:=⟨if f∈s.found then s.found else s.found++[f],fun g=>if g=f then s.count g+n else s.count g⟩
def holds(s:dB F)(l:List F):dB F:=l.foldl (fun s f=>hold s f 1) s
def l8(R:List (eo F))(P:List F)(z:F):List F:=R.flatMap fun r=>(nX r.k P z).filterMap r.inst
def meet(R:List (eo F))(s:dB F)(n:Nat):dB F:=match s.found[n]? with
 | none=>s
 | some z=>holds s (l8 R (s.found.take n) z)
def search(R:List (eo F))(M:Nat):Nat→Nat→dB F→Option (dB F)
 | 0,_,_=>none
 | fuel+1,n,s=>if n<s.found.length then (if M<s.found.length then none else search R M fuel (n+1) (meet R s n))else some s
theorem holds_nil(s:dB F):holds s []=s:=rfl
theorem kh(s:dB F)(f:F)(l:List F):holds s (f::l)=holds (hold s f 1) l:=rfl
theorem j4(s:dB F)(a b:List F):holds s (a++b)=holds (holds s a) b:=by simp[holds]
theorem wU(s:dB F)(f:F)(n:Nat):∃t,(hold s f n).found=s.found++t∧(∀g,g∈t→g=f)∧f∈s.found++t:=by
 unfold hold
 by_cases h:f∈s.found
 · exact⟨[],by simp[h],by simp,by simpa using h⟩
 · exact⟨[f],by simp[h],by simp,by simp⟩
theorem wQ{s:dB F}(h:s.found.Nodup)(f:F)(n:Nat):(hold s f n).found.Nodup:=by
 unfold hold
 by_cases hf:f∈s.found
 · simpa [hf]using h
 · simp only[hf,if_false]
   rw[List.nodup_append]
   exact⟨h,by simp,by simp;intro a ha e;exact hf (e▸ha)⟩
theorem iV(s:dB F)(f:F)(n:Nat)(g:F):(hold s f n).count g=s.count g+if g=f then n else 0:=by
 unfold hold
 by_cases h:g=f<;>simp[h]
theorem gz:∀(l:List F) (s:dB F),∃t,(holds s l).found=s.found++t∧(∀g,g∈t→g∈l)∧(∀g,g∈l→g∈s.found++t)∧(s.found.Nodup→(holds s l).found.Nodup)∧∀g,(holds s l).count g=s.count g+l.count g
 | [],s=>⟨[],by simp[holds_nil],by simp,by simp,fun h=>h,fun g=>by simp[holds_nil]⟩
 | f::l,s=>by
  obtain⟨t0,e0,a0,b0⟩:=wU s f 1
  obtain⟨t,e,a,b,c,d⟩:=gz l (hold s f 1)
  refine⟨t0++t, ?_, ?_, ?_, ?_, ?_⟩
  · rw[kh,e,e0,List.append_assoc]
  · intro g hg
    rcases List.mem_append.1 hg with hg | hg
    · rw[a0 g hg];simp
    · exact List.mem_cons_of_mem _ (a g hg)
  · intro g hg
    rw[←List.append_assoc]
    rcases List.mem_cons.1 hg with rfl | hg
    · exact List.mem_append_left _ b0
    · have:=b g hg
      rwa [e0]at this
  · intro h
    rw[kh]
    exact c (wQ h f 1)
  · intro g
    rw[kh,d,iV,List.count_cons]
    by_cases h:f=g
    · subst h;simp;omega
    · have h':¬g=f:=fun e=>h e.symm
      simp[h,h']
def Bx(R:List (eo F))(X:F→Prop):Prop:=∀r,r∈R→∀fs,fs.length=r.k→(∀f,f∈fs→X f)→∀h,r.inst fs=some h→X h
theorem ya{F:Type}{k:Nat}(hk:k≤2){L:List F}{fs:List F}:fs∈iA k L↔fs.length=k∧∀f,f∈fs→f∈L:=by
 have:k=0∨k=1∨k=2:=by omega
 rcases this with e | e | e<;>subst e
 · constructor
   · intro h;simp[iA]at h;subst h;simp
   · rintro⟨h,_⟩;simp[iA];exact List.eq_nil_of_length_eq_zero h
 · constructor
   · intro h;simp[iA]at h;obtain⟨x,hx,rfl⟩:=h;simpa using hx
   · rintro⟨h,h2⟩
     match fs,h with
     | [x],_=>simp[iA];exact h2 x (by simp)
 · constructor
   · intro h;simp[iA]at h;obtain⟨x,hx,y,hy,rfl⟩:=h;simp[hx,hy]
   · rintro⟨h,h2⟩
     match fs,h with
     | [x,y],_=>simp[iA];exact⟨h2 x (by simp),h2 y (by simp)⟩
theorem NX{F:Type}{k:Nat}(hk:k≤2){P:List F}{z:F}{fs:List F}(h:fs∈nX k P z):fs.length=k∧∀f,f∈fs→f∈P++[z]:=by
 have:k=0∨k=1∨k=2:=by omega
 rcases this with e | e | e<;>subst e
 · simp[nX]at h
 · simp[nX]at h;subst h;simp
 · simp only[nX,List.mem_append,List.mem_map]at h
   rcases h with⟨x,hx,rfl⟩ | ⟨y,hy,rfl⟩
   · refine⟨rfl, ?_⟩
     intro f hf
     simp at hf
     rcases hf with rfl | rfl
     · simp
     · simpa using hx
   · refine⟨rfl, ?_⟩
     intro f hf
     simp at hf
     rcases hf with rfl | rfl
     · simp[hy]
     · simp
def total(R:List (eo F))(L:List F)(h:F):Nat:=(R.map fun r=>lu r (iA r.k L) h).sum
structure Inv(R:List (eo F))(G:F→Prop)(s:dB F)(n:Nat):Prop where
 nodup:s.found.Nodup
 given:∀f,G f→f∈s.found
 counts:∀h,s.count h=total R (s.found.take n) h
 done:∀r,r∈R→∀fs,fs∈iA r.k (s.found.take n)→∀h,r.inst fs=some h→h∈s.found
 least:∀X,Bx R X→(∀f,G f→X f)→∀f,f∈s.found→X f
theorem uD(P:List F)(z h:F):∀R:List (eo F),(∀r,r∈R→r.k≤2)→total R (P++[z]) h=total R P h+(l8 R P z).count h
 | [],_=>rfl
 | r::R,hR=>by
  have ih:=uD P z h R (fun x hx=>hR x (by simp[hx]))
  unfold total l8 at*
  simp only[List.map_cons,List.sum_cons,List.flatMap_cons,List.count_append]
  rw[Dt r (hR r (by simp)),ih]
  have e:(List.filterMap r.inst (nX r.k P z)).count h=lu r (nX r.k P z) h:=rfl
  rw[e]
  omega
theorem D3{R:List (eo F)}(hR:∀r,r∈R→r.k≤2){G:F→Prop}{s:dB F}{n:Nat}(h:Inv R G s n)(hn:n<s.found.length):Inv R G (meet R s n) (n+1):=by
 have hz:s.found[n]?=some s.found[n]:=List.getElem?_eq_getElem hn
 unfold meet
 rw[hz]
 simp only
 obtain⟨t,e,a,b,c,d⟩:=gz (l8 R (s.found.take n) s.found[n]) s
 have sK:(holds s (l8 R (s.found.take n) s.found[n])).found.take (n+1)=s.found.take n++[s.found[n]]:=by
  rw[e,List.take_append_of_le_length (by omega),List.take_succ_eq_append_getElem hn]
 have Y5:∀f,f∈s.found.take n++[s.found[n]]→f∈s.found:=by
  intro f hf
  rcases List.mem_append.1 hf with hf | hf
  · exact List.mem_of_mem_take hf
  · simp at hf;subst hf;exact List.getElem_mem hn
 refine⟨c h.nodup, ?_, ?_, ?_, ?_⟩
 · intro f hf
   rw[e]
   exact List.mem_append_left _ (h.given f hf)
 · intro g
   rw[sK,d,h.counts,uD _ _ _ R hR]
 · intro r hr fs OO g hg
   rw[sK]at OO
   have hk:=hR r hr
   rw[e]
   have abR:=Dt r hk (s.found.take n) s.found[n] g
   have Ez:0<lu r (iA r.k (s.found.take n++[s.found[n]])) g:=by
    unfold lu
    rw[List.count_pos_iff,List.mem_filterMap]
    exact⟨fs,OO,hg⟩
   by_cases hz:0<lu r (iA r.k (s.found.take n)) g
   · unfold lu at hz
     rw[List.count_pos_iff,List.mem_filterMap]at hz
     obtain⟨fs',h1,h2⟩:=hz
     exact List.mem_append_left _ (h.done r hr fs' h1 g h2)
   · have dX:0<lu r (nX r.k (s.found.take n) s.found[n]) g:=by omega
     unfold lu at dX
     rw[List.count_pos_iff,List.mem_filterMap]at dX
     obtain⟨fs',h1,h2⟩:=dX
     exact b g (List.mem_flatMap.2 ⟨r,hr,List.mem_filterMap.2 ⟨fs',h1,h2⟩⟩)
 · intro X hX hG f hf
   rw[e]at hf
   rcases List.mem_append.1 hf with hf | hf
   · exact h.least X hX hG f hf
   · obtain⟨r,hr,hm⟩:=List.mem_flatMap.1 (a f hf)
     obtain⟨fs,h1,h2⟩:=List.mem_filterMap.1 hm
     obtain⟨h3,h4⟩:=NX (hR r hr) h1
     exact hX r hr fs h3 (fun g hg=>h.least X hX hG g (Y5 g (h4 g hg))) f h2
theorem yz{R:List (eo F)}(hR:∀r,r∈R→r.k≤2){M:Nat}{G:F→Prop}:∀(fuel n:Nat) (s s':dB F),Inv R G s n→n≤s.found.length→search R M fuel n s=some s'→Inv R G s' s'.found.length
 | 0,_,_,_,_,_,h=>by simp[search]at h
 | fuel+1,n,s,s',hi,hn,h=>by
  unfold search at h
  by_cases h1:n<s.found.length
  · rw[if_pos h1]at h
    by_cases h2:M<s.found.length
    · rw[if_pos h2]at h;cases h
    · rw[if_neg h2]at h
      refine yz hR fuel (n+1) _ s' (D3 hR hi h1) ?_ h
      have hz:s.found[n]?=some s.found[n]:=List.getElem?_eq_getElem h1
      unfold meet
      rw[hz]
      simp only
      obtain⟨t,e,_⟩:=gz (l8 R (s.found.take n) s.found[n]) s
      rw[e,List.length_append]
      omega
  · rw[if_neg h1]at h
    simp only[Option.some.injEq]at h
    subst h
    have:n=s.found.length:=by omega
    rw[←this]
    exact hi
theorem uo{R:List (eo F)}(hR:∀r,r∈R→r.k≤2){M:Nat}{G:F→Prop}(U:List F)(hU:U.length≤M)(hc:Bx R (· ∈U))(hG:∀f,G f→f∈U):∀(fuel n:Nat) (s:dB F),Inv R G s n→n≤s.found.length→M<fuel+n→∃s',search R M fuel n s=some s'
 | 0,n,s,hi,hn,hf=>by
  have hl:s.found.length≤U.length:=List.Nodup.length_le_of_subset hi.nodup (fun f hf=>hi.least (· ∈U) hc hG f hf)
  omega
 | fuel+1,n,s,hi,hn,hf=>by
  have hl:s.found.length≤U.length:=List.Nodup.length_le_of_subset hi.nodup (fun f hf=>hi.least (· ∈U) hc hG f hf)
  unfold search
  by_cases h1:n<s.found.length
  · rw[if_pos h1,if_neg (by omega)]
    refine uo hR U hU hc hG fuel (n+1) _ (D3 hR hi h1) ?_ (by omega)
    have hz:s.found[n]?=some s.found[n]:=List.getElem?_eq_getElem h1
    unfold meet
    rw[hz]
    simp only
    obtain⟨t,e,_⟩:=gz (l8 R (s.found.take n) s.found[n]) s
    rw[e,List.length_append]
    omega
  · rw[if_neg h1]
    exact⟨s,rfl⟩
end
end En
/- Bindings: by which names a rule's body becomes facts. No program here. -/
namespace En
def ee:ByteArray:=⟨#[]⟩
abbrev Bind:=List (ByteArray×ByteArray)
def val(b:Bind)(x:ByteArray):ByteArray:=match b with
 | []=>ee
 | p::r=>if p.1=x then p.2 else val r x
def dK(s:ByteArray→ByteArray)(t:Ax.Term):ByteArray:=if t.kind=0 then t.text else s t.text
def fP:List Ax.Term→List ByteArray→Bind→Option Bind
 | [],_,b=>some b
 | _::_,[],_=>none
 | t::ts,n::ns,b=>if dK (val b) t=n then fP ts ns b else if dK (val b) t=ee then fP ts ns (b++[(t.text,n)])else none
def Full(b:Bind):Prop:=∀p,p∈b→p.2≠ee
theorem so(b:Bind)(hb:Full b)(x n y:ByteArray):val (b++[(x,n)]) y=if val b y=ee then (if x=y then n else ee)else val b y:=by
 induction b with
 | nil=>simp[val]
 | cons p r ih=>
  have hp:=hb p (by simp)
  rw[List.cons_append,val,val]
  by_cases h:p.1=y
  · rw[if_pos h,if_pos h,if_neg hp]
  · rw[if_neg h,if_neg h]
    exact ih (fun q hq=>hb q (by simp[hq]))
theorem Ar{b:Bind}(hb:Full b)(x:ByteArray){n:ByteArray}(hn:n≠ee):Full (b++[(x,n)]):=by
 intro p hp
 rcases List.mem_append.1 hp with hp | hp
 · exact hb p hp
 · simp at hp;subst hp;exact hn
def qI(ts:List Ax.Term):Prop:=∀t,t∈ts→t.kind=0→t.text≠ee
theorem mZ:∀(ts:List Ax.Term) (ns:List ByteArray) (b b':Bind),qI ts→Full b→(∀n,n∈ns.take ts.length→n≠ee)→fP ts ns b=some b'→
 Full b'∧(∀y,val b y≠ee→val b' y=val b y)∧(∀(j:Nat) t,ts[j]?=some t→ns[j]?=some (dK (val b') t))∧(∀y,val b' y≠ee→val b y≠ee∨∃t,t∈ts∧t.kind≠0∧t.text=y)
 | [],ns,b,b',_,hb,_,h=>by
  simp only[fP,Option.some.injEq]at h
  subst h
  exact⟨hb,fun _ _=>rfl,fun j t ht=>by simp at ht,fun y hy=>.inl hy⟩
 | t::ts,[],b,b',_,_,_,h=>by simp[fP]at h
 | t::ts,n::ns,b,b',hN,hb,hn,h=>by
  have hN':qI ts:=fun u hu=>hN u (by simp[hu])
  have hn0:n≠ee:=hn n (by simp)
  have hn':∀m,m∈ns.take ts.length→m≠ee:=fun m hm=>hn m (by simp[hm])
  rw[fP]at h
  by_cases h1:dK (val b) t=n
  · rw[if_pos h1]at h
    obtain⟨a1,a2,a3,a4⟩:=mZ ts ns b b' hN' hb hn' h
    refine⟨a1,a2, ?_, ?_⟩
    · intro j u hu
      cases j with
      | zero=>
       simp at hu
       subst hu
       simp only[List.getElem?_cons_zero,Option.some.injEq]
       rw[←h1]
       unfold dK at h1 ⊢
       by_cases hk:t.kind=0
       · rw[if_pos hk,if_pos hk]
       · rw[if_neg hk]at h1
         rw[if_neg hk,if_neg hk,a2 _ (by rw[h1];exact hn0)]
      | succ j=>simpa using a3 j u (by simpa using hu)
    · intro y hy
      rcases a4 y hy with h2 | ⟨u,hu,h2⟩
      · exact .inl h2
      · exact .inr ⟨u,by simp[hu],h2⟩
  · rw[if_neg h1]at h
    by_cases h2:dK (val b) t=ee
    · rw[if_pos h2]at h
      have hk:t.kind≠0:=by
       intro hk
       unfold dK at h2
       rw[if_pos hk]at h2
       exact hN t (by simp) hk h2
      have hv:val b t.text=ee:=by
       unfold dK at h2
       rwa [if_neg hk]at h2
      obtain⟨a1,a2,a3,a4⟩:=mZ ts ns _ b' hN' (Ar hb t.text hn0) hn' h
      have Nr:val b' t.text=n:=by
       have e:val (b++[(t.text,n)]) t.text=n:=by rw[so b hb,if_pos hv,if_pos rfl]
       rw[a2 _ (by rw[e];exact hn0),e]
      refine⟨a1, ?_, ?_, ?_⟩
      · intro y hy
        have e:val (b++[(t.text,n)]) y=val b y:=by rw[so b hb,if_neg hy]
        rw[a2 _ (by rw[e];exact hy),e]
      · intro j u hu
        cases j with
        | zero=>
         simp at hu
         subst hu
         simp only[List.getElem?_cons_zero,Option.some.injEq]
         unfold dK
         rw[if_neg hk,Nr]
        | succ j=>simpa using a3 j u (by simpa using hu)
      · intro y hy
        rcases a4 y hy with h3 | ⟨u,hu,h3⟩
        · rw[so b hb]at h3
          by_cases Wg:val b y=ee
          · rw[if_pos Wg]at h3
            by_cases Q1:t.text=y
            · exact .inr ⟨t,by simp,hk,Q1⟩
            · rw[if_neg Q1]at h3;exact absurd rfl h3
          · exact .inl Wg
        · exact .inr ⟨u,by simp[hu],h3⟩
    · rw[if_neg h2]at h
      cases h
theorem jM(s:ByteArray→ByteArray)(hs:∀y,s y≠ee):∀(ts:List Ax.Term) (ns:List ByteArray) (b:Bind),Full b→(∀y,val b y≠ee→s y=val b y)→(∀(j:Nat) t,ts[j]?=some t→ns[j]?=some (dK s t))→
 ∃b',fP ts ns b=some b'∧(∀y,val b' y≠ee→s y=val b' y)
 | [],ns,b,_,hv,_=>⟨b,rfl,hv⟩
 | t::ts,[],b,_,_,h=>by simpa using h 0 t rfl
 | t::ts,n::ns,b,hb,hv,h=>by
  have h0:n=dK s t:=by simpa using h 0 t rfl
  have h':∀(j:Nat) u,ts[j]?=some u→ns[j]?=some (dK s u):=fun j u hu=>by simpa using h (j+1) u (by simpa using hu)
  rw[fP]
  by_cases h1:dK (val b) t=n
  · rw[if_pos h1]
    exact jM s hs ts ns b hb hv h'
  · rw[if_neg h1]
    have hk:t.kind≠0:=by
     intro hk
     apply h1
     rw[h0]
     unfold dK
     rw[if_pos hk,if_pos hk]
    have hn:n=s t.text:=by
     rw[h0]
     unfold dK
     rw[if_neg hk]
    have h2:dK (val b) t=ee:=by
     unfold dK at h1 ⊢
     rw[if_neg hk]at h1 ⊢
     apply Classical.byContradiction
     intro hc
     exact h1 (by rw[hn,hv _ hc])
    rw[if_pos h2]
    have hvt:val b t.text=ee:=by
     unfold dK at h2
     rwa [if_neg hk]at h2
    refine jM s hs ts ns _ (Ar hb _ (by rw[hn];exact hs _)) ?_ h'
    intro y hy
    rw[so b hb]at hy ⊢
    by_cases Wg:val b y=ee
    · rw[if_pos Wg]at hy ⊢
      by_cases Q1:t.text=y
      · rw[if_pos Q1,hn,Q1]
      · rw[if_neg Q1]at hy;exact absurd rfl hy
    · rw[if_neg Wg]
      exact hv y Wg
abbrev cl:=ByteArray×List ByteArray
def dh(a:Ax.Atom)(f:cl)(b:Bind):Option Bind:=if a.pred=f.1 then fP a.ag f.2 b else none
def pad(l:List ByteArray):List ByteArray:=l++List.replicate (3-l.length) ee
def du(s:ByteArray→ByteArray)(a:Ax.Atom):cl:=(a.pred,pad (a.ag.map (dK s)))
def gU:List Ax.Atom→List cl→Bind→Option Bind
 | [],[],b=>some b
 | a::az,f::fs,b=>match dh a f b with | some b'=>gU az fs b' | none=>none
 | _,_,_=>none
def gB(r:Ax.br)(fs:List cl):Option cl:=(gU r.body fs []).map fun b=>du (val b) r.head
def cT(r:Ax.br):eo cl:=⟨r.body.length,gB r⟩
def Av(a:Ax.Atom)(f:cl):Prop:=a.pred=f.1→∃l:List ByteArray,l.length=a.ag.length∧(∀n,n∈l→n≠ee)∧f.2=pad l
theorem B9{l:List ByteArray}{j:Nat}(h:j<l.length):(pad l)[j]?=l[j]?:=by
 unfold pad
 rw[List.getElem?_append_left h]
theorem wY(l:List ByteArray):(pad l).take l.length=l:=by simp[pad]
theorem rm{a:Ax.Atom}{f:cl}{b b':Bind}(hN:qI a.ag)(hf:Av a f)(hb:Full b)(h:dh a f b=some b'):
 Full b'∧(∀y,val b y≠ee→val b' y=val b y)∧du (val b') a=f∧(∀t,t∈a.ag→t.kind≠0→val b' t.text≠ee):=by
 unfold dh at h
 by_cases hp:a.pred=f.1
 · rw[if_pos hp]at h
   obtain⟨l,hl,cA,L9⟩:=hf hp
   rw[L9]at h
   obtain⟨a1,a2,a3,a4⟩:=mZ a.ag (pad l) b b' hN hb (by rw[←hl,wY];exact cA) h
   have hbound:∀t,t∈a.ag→t.kind≠0→val b' t.text≠ee:=by
    intro t ht hk
    obtain⟨j,hj,e⟩:=List.getElem_of_mem ht
    have h3:=a3 j t (by rw[List.getElem?_eq_getElem hj,e])
    rw[B9 (by omega)]at h3
    have hm:=cA _ (List.mem_of_getElem? h3)
    unfold dK at hm
    rwa [if_neg hk]at hm
   refine⟨a1,a2, ?_,hbound⟩
   have e:a.ag.map (dK (val b'))=l:=by
    apply List.ext_getElem?
    intro j
    rw[List.getElem?_map]
    cases hj:a.ag[j]? with
    | none=>
     rw[List.getElem?_eq_none_iff]at hj
     rw[Option.map_none,List.getElem?_eq_none (by omega)]
    | some t=>
     have EZ:=(List.getElem?_eq_some_iff.1 hj).1
     have:=a3 j t hj
     rw[B9 (by omega)]at this
     rw[this]
     rfl
   unfold du
   rw[e,hp,←L9]
 · rw[if_neg hp]at h;cases h
theorem uW(s:ByteArray→ByteArray)(hs:∀y,s y≠ee){a:Ax.Atom}{b:Bind}(hb:Full b)(hv:∀y,val b y≠ee→s y=val b y):∃b',dh a (du s a) b=some b'∧(∀y,val b' y≠ee→s y=val b' y):=by
 unfold dh
 have hp:a.pred=(du s a).1:=rfl
 rw[if_pos hp]
 refine jM s hs a.ag _ b hb hv ?_
 intro j t ht
 have hj:=(List.getElem?_eq_some_iff.1 ht).1
 show(pad (a.ag.map (dK s)))[j]?=_
 rw[B9 (by simpa using hj),List.getElem?_map,ht]
 rfl
end En
/- What a rule makes of facts: just its instances. No program here. -/
namespace En
def Xb(b:Bind)(a:Ax.Atom):Prop:=∀t,t∈a.ag→t.kind≠0→val b t.text≠ee
theorem lA{s u:ByteArray→ByteArray}{a:Ax.Atom}(h:∀t,t∈a.ag→t.kind≠0→s t.text=u t.text):du s a=du u a:=by
 unfold du
 have e:a.ag.map (dK s)=a.ag.map (dK u):=by
  apply List.map_congr_left
  intro t ht
  unfold dK
  by_cases hk:t.kind=0
  · rw[if_pos hk,if_pos hk]
  · rw[if_neg hk,if_neg hk,h t ht hk]
 rw[e]
theorem oj:∀(az:List Ax.Atom) (fs:List cl) (b b':Bind),(∀a,a∈az→qI a.ag)→(∀x,x∈az.zip fs→Av x.1 x.2)→Full b→gU az fs b=some b'→
 Full b'∧(∀y,val b y≠ee→val b' y=val b y)∧fs=az.map (du (val b'))∧(∀a,a∈az→Xb b' a)
 | [],[],b,b',_,_,hb,h=>by
  simp only[gU,Option.some.injEq]at h
  subst h
  exact⟨hb,fun _ _=>rfl,rfl,fun a ha=>by cases ha⟩
 | [],f::fs,b,b',_,_,_,h=>by simp[gU]at h
 | a::az,[],b,b',_,_,_,h=>by simp[gU]at h
 | a::az,f::fs,b,b',hN,hF,hb,h=>by
  rw[gU]at h
  cases hm:dh a f b with
  | none=>rw[hm]at h;cases h
  | some b1=>
   rw[hm]at h
   simp only at h
   obtain⟨c1,c2,c3,c4⟩:=rm (hN a (by simp)) (hF (a,f) (by simp)) hb hm
   obtain⟨d1,d2,d3,d4⟩:=oj az fs b1 b' (fun x hx=>hN x (by simp[hx])) (fun x hx=>hF x (by simp[hx])) c1 h
   refine⟨d1, ?_, ?_, ?_⟩
   · intro y hy
     have e:=c2 y hy
     rw[d2 y (by rw[e];exact hy),e]
   · have c3':f=du (val b1) a:=c3.symm
     rw[List.map_cons,←d3,c3']
     congr 1
     exact lA (fun t ht hk=>(d2 _ (c4 t ht hk)).symm)
   · intro x hx
     rcases List.mem_cons.1 hx with rfl | hx
     · intro t ht hk
       have e:=d2 _ (c4 t ht hk)
       rw[e]
       exact c4 t ht hk
     · exact d4 x hx
theorem od(s:ByteArray→ByteArray)(hs:∀y,s y≠ee):∀(az:List Ax.Atom) (b:Bind),(∀a,a∈az→qI a.ag)→(∀x,x∈az.zip (az.map (du s))→Av x.1 x.2)→Full b→(∀y,val b y≠ee→s y=val b y)→
 ∃b',gU az (az.map (du s)) b=some b'∧(∀y,val b' y≠ee→s y=val b' y)
 | [],b,_,_,_,hv=>⟨b,rfl,hv⟩
 | a::az,b,hN,hF,hb,hv=>by
  obtain⟨b1,h1,h2⟩:=uW s hs (a:=a) hb hv
  obtain⟨c1,_⟩:=rm (hN a (by simp)) (hF (a,du s a) (by simp)) hb h1
  obtain⟨b',h3,h4⟩:=od s hs az b1 (fun x hx=>hN x (by simp[hx])) (fun x hx=>hF x (by simp[hx])) c1 h2
  refine⟨b', ?_,h4⟩
  rw[List.map_cons,gU,h1]
  exact h3
def Safe(r:Ax.br):Prop:=∀t,t∈r.head.ag→t.kind≠0→∃a,a∈r.body∧∃u,u∈a.ag∧u.kind≠0∧u.text=t.text
def Ea(r:Ax.br):Prop:=∀a,a∈r.body→qI a.ag
theorem Ae{r:Ax.br}(hS:Safe r)(hN:Ea r){fs:List cl}(hF:∀x,x∈r.body.zip fs→Av x.1 x.2)(h:cl):
 gB r fs=some h↔∃s:ByteArray→ByteArray,(∀y,s y≠ee)∧fs=r.body.map (du s)∧h=du s r.head:=by
 have hE:Full []:=fun p hp=>by cases hp
 constructor
 · intro hr
   unfold gB at hr
   cases hm:gU r.body fs []with
   | none=>rw[hm]at hr;cases hr
   | some b=>
    rw[hm]at hr
    simp only[Option.map_some,Option.some.injEq]at hr
    obtain⟨_,_,c3,c4⟩:=oj r.body fs [] b hN hF hE hm
    refine⟨fun y=>if val b y=ee then ⟨#[97]⟩else val b y, ?_, ?_, ?_⟩
    · intro y
      by_cases hy:val b y=ee
      · simp only[hy,if_true]
        decide
      · simp only[hy,if_false]
        exact hy
    · rw[c3]
      apply List.map_congr_left
      intro a ha
      apply lA
      intro t ht hk
      rw[if_neg (c4 a ha t ht hk)]
    · rw[←hr]
      apply lA
      intro t ht hk
      obtain⟨a,ha,u,hu,BI,e⟩:=hS t ht hk
      have EK:=c4 a ha u hu BI
      rw[e]at EK
      rw[if_neg EK]
 · rintro⟨s,hs,rfl,rfl⟩
   obtain⟨b,h1,h2⟩:=od s hs r.body [] hN hF hE (fun y hy=>absurd rfl hy)
   obtain⟨_,_,c3,c4⟩:=oj r.body _ [] b hN hF hE h1
   unfold gB
   rw[h1]
   simp only[Option.map_some,Option.some.injEq]
   apply lA
   intro t ht hk
   obtain⟨a,ha,u,hu,BI,e⟩:=hS t ht hk
   have EK:=c4 a ha u hu BI
   rw[e]at EK
   exact(h2 _ EK).symm
end En
end Go.Proofs.YtdmicblafmhflaaGreatDoor
