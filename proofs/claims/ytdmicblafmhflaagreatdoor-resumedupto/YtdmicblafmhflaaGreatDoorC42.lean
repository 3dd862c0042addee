/- slices.Sort and slices.Compact at names. -/
import Derived.Test.YtdmicblafmhflaaGreatDoorC41
import Derived.Shelf.SortG.Plain
import Derived.Shelf.SortG.SortNone
set_option linter.unusedSimpArgs false
set_option linter.unusedVariables false
namespace Go.Proofs.YtdmicblafmhflaaGreatDoor
section
open Go.Shelf Go.RowKit
open Go.Sort (grow Holds putRow)
def uT(l:List (List UInt8)):List Value:=l.map encStr
theorem wJ(d:List (List UInt8))(c:Array Value)(h:d.length≤c.size):(Go.Sort.putCells encStr 0 d.toArray c).toList.take d.length=uT d∧(Go.Sort.putCells encStr 0 d.toArray c).size=c.size:=by
 have hs:(Go.Sort.putCells encStr 0 d.toArray c).size=c.size:=by simp[Go.Sort.putCells]
 refine⟨?_,hs⟩
 apply List.ext_getElem
 · simp[hs,uT];omega
 · intro t h1 h2
   have ht:t<d.length:=by simpa [uT]using h2
   rw[List.getElem_take,Array.getElem_toList]
   simp only[Go.Sort.putCells,Array.getElem_mapIdx]
   rw[if_pos ⟨Nat.zero_le _,by simpa using ht⟩,Nat.sub_zero,getElem!_pos d.toArray t (by simpa using ht)]
   simp[uT]
theorem wF{B:Nat}{w:World}{g n c q:Nat}{l l':List (List UInt8)}{os:Array Obj}(au:w.ownsRow B 9 1 (.slice (some ⟨g,0,none⟩) n c) n (uT l))(hl:l'.length=l.length):
 (grow (putRow encStr (Go.Sort.ahead w q) g 0 l'.toArray) os).ownsRow B 9 1 (.slice (some ⟨g,0,none⟩) n c) n (uT l')∧Kb [g] w (grow (putRow encStr (Go.Sort.ahead w q) g 0 l'.toArray) os):=by
 have hn:l.length=n:=by have:=au.1;simpa [uT]using this
 rcases au.2 with⟨e,_⟩ | ⟨g',cap,cur,e,hB,hg,Lp,qD,qo,_⟩
 · simp at e
 · simp only[Value.slice.injEq,Option.some.injEq,Addr.mk.injEq,and_true,true_and]at e
   obtain⟨rfl,rfl⟩:=e
   have aG:=lt_of_heap hg
   have xX:(grow (putRow encStr (Go.Sort.ahead w q) g 0 l'.toArray) os).heap=w.heap.modify g (Go.Sort.onCells (Go.Sort.putCells encStr 0 l'.toArray))++os:=rfl
   obtain⟨p1,p2⟩:=wJ l' cur (by rw[qo];omega)
   refine⟨⟨by simp[uT,hl,hn],.inr ⟨g,c,Go.Sort.putCells encStr 0 l'.toArray cur,rfl,hB, ?_,Lp,qD,by rw[p2,qo], ?_⟩⟩,⟨rfl,rfl,rfl, ?_, ?_⟩⟩
   · rw[xX,Array.getElem?_append_left (by simpa using aG),Array.getElem?_modify,if_pos rfl,hg]
     rfl
   · rw[show n*1=l'.length by omega,p1]
   · rw[xX];simp
   · intro k hk cE
     rw[xX,Array.getElem?_append_left (by simpa using hk),Array.getElem?_modify,if_neg (by simp at cE;omega)]
theorem zn{B:Nat}{w:World}{g n c:Nat}{l:List (List UInt8)}(au:w.ownsRow B 9 1 (.slice (some ⟨g,0,none⟩) n c) n (uT l)):Holds encStr w g 0 l.toArray∧g<w.heap.size:=by
 obtain⟨cur,hg⟩:=aI au (b:=g) rfl
 have kq:=World.ownsRow.cells au (g:=g) rfl
 refine⟨?_,lt_of_heap hg⟩
 intro j hj
 have hj':j<l.length:=by simpa using hj
 refine⟨?_,by simp[World.frozen?,hg]⟩
 have h9:=kq j (encStr l[j]) (by simp[uT,List.getElem?_eq_getElem hj'])
 rw[getElem!_pos l.toArray j hj]
 rcases j with _ | j
 · simpa [Addr.add]using h9
 · simpa [Addr.add]using h9
theorem Ku(B:Nat)(w:World)(g n c:Nat)(l:List (List UInt8))(au:w.ownsRow B 9 1 (.slice (some ⟨g,0,none⟩) n c) n (uT l))(hn:n≤1000000000):
 Calls Tryz.prog 134 #[.slice (some ⟨g,0,none⟩) n c] w fun e w'=>e=.returned (.tuple #[])∧w'.ownsRow B 9 1 (.slice (some ⟨g,0,none⟩) n c) n (uT (l.mergeSort fun x y=>decide (x≤y)))∧Kb [g] w w':=by
 have xM:l.length=n:=by have:=au.1;simpa [uT]using this
 obtain⟨hH,aG⟩:=zn au
 have h:=AnyG.slices_Sort_string zC g 0 c l w hH aG (by omega)
 rw[xM]at h
 refine Calls.mono h ?_
 rintro e w' ⟨rfl,q,os,rfl⟩
 exact⟨rfl,wF au (by simp)⟩
theorem Jd{B:Nat}{w:World}{g n m c:Nat}{xs:List Value}(au:w.ownsRow B 9 1 (.slice (some ⟨g,0,none⟩) n c) n xs)(hm:m≤n):w.ownsRow B 9 1 (.slice (some ⟨g,0,none⟩) m c) m (xs.take m):=by
 have hn:xs.length=n*1:=au.1
 rcases au.2 with⟨e,_⟩ | ⟨g',cap,cur,e,hB,hg,Lp,qD,qo,hc4⟩
 · simp at e
 · simp only[Value.slice.injEq,Option.some.injEq,Addr.mk.injEq,and_true,true_and]at e
   obtain⟨rfl,rfl⟩:=e
   refine⟨by rw[List.length_take];omega,.inr ⟨g,c,cur,rfl,hB,hg,by omega,qD,qo, ?_⟩⟩
   rw[←hc4,List.take_take,Nat.min_eq_left (by omega),Nat.mul_one]
theorem wZ(l:List (List UInt8)):(Lib.compact l).length≤l.length:=by
 unfold Lib.compact Lib.compactUpTo
 rw[List.length_map]
 exact Nat.le_trans (List.length_filter_le _ _) (by simp)
theorem Kw(B:Nat)(w:World)(g n c:Nat)(l:List (List UInt8))(au:w.ownsRow B 9 1 (.slice (some ⟨g,0,none⟩) n c) n (uT l))(hn:n≤1000000000)(hc:n≤c):
 Calls Tryz.prog 135 #[.slice (some ⟨g,0,none⟩) n c] w fun e w'=>e=.returned (.slice (some ⟨g,0,none⟩) (Lib.compact l).length c)∧w'.ownsRow B 9 1 (.slice (some ⟨g,0,none⟩) (Lib.compact l).length c) (Lib.compact l).length (uT (Lib.compact l))∧Kb [g] w w':=by
 have xM:l.length=n:=by have:=au.1;simpa [uT]using this
 obtain⟨hH,aG⟩:=zn au
 have hle:=wZ l
 have h:=AnyG.slices_Compact_string zS g 0 c l w hH (by omega) (by omega)
 rw[xM]at h
 refine Calls.mono h ?_
 rintro e w' ⟨rfl,q,rfl⟩
 obtain⟨r1,r2⟩:=wF (q:=q) (os:=#[]) (l':=Lib.compact l++List.replicate (n-(Lib.compact l).length) []) au (by simp;omega)
 rw[Go.Sort.grow_empty]at r1 r2
 refine⟨rfl, ?_,r2⟩
 have h9:=Jd r1 (m:=(Lib.compact l).length) (by omega)
 rwa [show(uT (Lib.compact l++List.replicate (n-(Lib.compact l).length) [])).take (Lib.compact l).length=uT (Lib.compact l) by simp[uT]]at h9
end
/- Names sorted and compacted: each once, in the order of their bytes. -/
section
theorem Cy(l:List (List UInt8))(x:List UInt8):x∈Lib.compact l↔x∈l:=by
 unfold Lib.compact Lib.compactUpTo
 simp only[List.mem_map,List.mem_filter,List.mem_range]
 constructor
 · rintro⟨t,⟨ht,_⟩,rfl⟩
   rw[getElem!_pos l.toArray t (by simpa using ht)]
   simp
 · intro hx
   obtain⟨t,ht,rfl⟩:=List.mem_iff_getElem.1 hx
   clear hx
   induction t with
   | zero=>exact⟨0,⟨ht,Lib.keeps_lt_one _ 0 (by omega)⟩,by rw[getElem!_pos l.toArray 0 (by simpa using ht)];simp⟩
   | succ t ih=>
    by_cases hk:Lib.keeps l.toArray (t+1)=true
    · exact⟨t+1,⟨ht,hk⟩,by rw[getElem!_pos l.toArray (t+1) (by simpa using ht)];simp⟩
    · obtain⟨j,hj,e⟩:=ih (by omega)
      refine⟨j,hj, ?_⟩
      rw[e]
      simp only[Lib.keeps]at hk
      rw[getElem!_pos l.toArray (t+1) (by simpa using ht),show t+1-1=t by omega,getElem!_pos l.toArray t (by simp;omega)]at hk
      simp at hk
      exact hk.symm
theorem we(l:List (List UInt8))(hs:l.Pairwise fun a b=>a≤b):(Lib.compact l).Pairwise fun a b=>a<b:=by
 unfold Lib.compact Lib.compactUpTo
 rw[List.pairwise_map]
 have h:((List.range l.length).filter (Lib.keeps l.toArray)).Pairwise fun a b=>a<b:=List.Pairwise.filter _ List.pairwise_lt_range
 refine List.Pairwise.imp_of_mem ?_ h
 intro a b ha hb rG
 simp only[List.mem_filter,List.mem_range]at ha hb
 obtain⟨ff,fK⟩:=hb
 have e0:∀t (h:t<l.length),l.toArray[t]! =l[t]:=fun t h=>by rw[getElem!_pos l.toArray t (by simpa using h)];simp
 rw[e0 a ha.1,e0 b ff]
 have cE:l[b]≠l[b-1]:=by
  simp only[Lib.keeps]at fK
  rw[e0 b ff,e0 (b-1) (by omega)]at fK
  simp at fK
  rcases fK with h9 | h9
  · omega
  · exact h9
 have h1:l[a]≤l[b-1]:=by
  by_cases e:a=b-1
  · subst e
    exact List.le_refl _
  · exact List.pairwise_iff_getElem.1 hs a (b-1) ha.1 (by omega) (by omega)
 have h2:l[b-1]≤l[b]:=List.pairwise_iff_getElem.1 hs (b-1) b (by omega) ff (by omega)
 have h3:l[b-1]<l[b]:=by
  rcases Decidable.em (l[b-1]<l[b])with h | h
  · exact h
  · exact absurd (List.le_antisymm (List.not_lt.1 h) h2) cE
 exact List.lt_of_le_of_lt h1 h3
theorem rA(l:List (List UInt8)):(Lib.compact (l.mergeSort fun x y=>decide (x≤y))).Pairwise (fun a b=>a<b)∧∀x,x∈Lib.compact (l.mergeSort fun x y=>decide (x≤y))↔x∈l:=by
 refine⟨we _ ?_,fun x=>by rw[Cy,List.mem_mergeSort]⟩
 have h:=List.pairwise_mergeSort (le:=fun x y:List UInt8=>decide (x≤y)) (fun a b c h1 h2=>by simp only[decide_eq_true_eq]at *;exact List.le_trans h1 h2) (fun a b=>by simp only[Bool.or_eq_true,decide_eq_true_eq];exact List.le_total a b) l
 exact h.imp (fun h=>by simpa using h)
end
/- What an export is written as, as a function of the rules and of what is given; a state's parts as they lie. -/
section
open Go.Shelf Go.RowKit Go.Maps
def gQ:List Pd.Pr:=[(Ax.cp 1,2),(Ax.cp 0,1),(Ax.cp 2,2)]
theorem RA{Q:List Pd.Pr}(hs:Pd.vp Q)(hm:∀p,p∈Q↔p∈jW):Q=gQ:=by
 refine Pd.Hq hs (by unfold Pd.vp gQ;decide+kernel) (fun x=>(hm x).trans ?_)
 unfold jW gQ
 simp only[List.mem_cons,List.not_mem_nil,or_false]
 constructor
 · rintro(h | h | h)<;>simp[h]
 · rintro(h | h | h)<;>simp[h]
theorem oK{p:Pd.Pr}(h:p∈gQ):p∈jW:=by
 unfold gQ at h
 unfold jW
 simp only[List.mem_cons,List.not_mem_nil,or_false]at h ⊢
 rcases h with h | h | h<;>simp[h]
namespace Ex
def np(H:Nat→Bool)(Q:List Pd.Pr):List ByteArray:=Q.flatMap fun p=>(cW H p.1).flatMap fun j=>(bk j).2
def QN(l:List ByteArray):List (List UInt8):=Lib.compact ((l.map ByteArray.toList).mergeSort fun x y=>decide (x≤y))
def jH(H:Nat→Bool):List ByteArray:=(QN (np H gQ)).map fun l=>⟨l.toArray⟩
def place(H:Nat→Bool)(x:ByteArray):Nat:=(jH H).findIdx fun y=>decide (y=x)
def fact(kl:List Ax.aA)(gv:Nat→Bool)(j:Nat):List UInt8:=Rc.aZ (if gv j=true then 1 else 0)++Rc.aZ (lq kl gv j)++(bk j).2.flatMap fun x=>Rc.aZ (place (En.al (En.af kl) gv) x)
def facts(kl:List Ax.aA)(gv:Nat→Bool)(p:ByteArray):List UInt8:=Rc.aZ (cW (En.al (En.af kl) gv) p).length++(cW (En.al (En.af kl) gv) p).flatMap (fact kl gv)
def body(kl:List Ax.aA)(gv:Nat→Bool):List UInt8:=Rc.aS (Ax.aC kl)++Rc.aZ (jH (En.al (En.af kl) gv)).length++(jH (En.al (En.af kl) gv)).flatMap Rc.aS++gQ.flatMap fun p=>facts kl gv p.1
theorem aeb(l:List ByteArray):strCells l=uT (l.map ByteArray.toList):=by
 simp[strCells,uT,encStr,ByteArray.toList_eq]
theorem aaJ(l:List (List UInt8)):strCells (l.map fun b=>(⟨b.toArray⟩:ByteArray))=uT l:=by
 simp[strCells,uT,encStr]
theorem FJ(H:Nat→Bool):(jH H).Pairwise fun a b=>a.toList<b.toList:=by
 unfold jH
 rw[List.pairwise_map]
 exact(rA ((np H gQ).map ByteArray.toList)).1.imp (fun h=>by simpa [ByteArray.toList_eq]using h)
theorem Ih(H:Nat→Bool)(x:ByteArray):x∈jH H↔x∈np H gQ:=by
 unfold jH
 rw[List.mem_map]
 constructor
 · rintro⟨l,hl,rfl⟩
   have h:=((rA ((np H gQ).map ByteArray.toList)).2 l).1 hl
   obtain⟨y,hy,rfl⟩:=List.mem_map.1 h
   simpa [ByteArray.toList_eq]using hy
 · intro h
   refine⟨x.toList,((rA ((np H gQ).map ByteArray.toList)).2 _).2 (List.mem_map_of_mem h),by simp[ByteArray.toList_eq]⟩
theorem CS(H:Nat→Bool){p:Pd.Pr}(hp:p∈gQ){j:Nat}(hj:j∈cW H p.1){x:ByteArray}(hx:x∈(bk j).2):(jH H)[place H x]?=some x:=by
 have hm:x∈jH H:=(Ih H x).2 (List.mem_flatMap.2 ⟨p,hp,List.mem_flatMap.2 ⟨j,hj,hx⟩⟩)
 have aG:place H x<(jH H).length:=List.findIdx_lt_length_of_exists ⟨x,hm,by simp⟩
 have hp:=List.findIdx_getElem (p:=fun y=>decide (y=x)) (xs:=jH H) (w:=aG)
 rw[List.getElem?_eq_getElem aG]
 exact congrArg some (of_decide_eq_true hp)
theorem DB(H:Nat→Bool)(Q:List Pd.Pr):(np H Q).length≤108*Q.length:=by
 unfold np
 induction Q with
 | nil=>simp
 | cons p Q ih=>
  rw[List.flatMap_cons,List.length_append]
  have h1:∀l:List Nat,(l.flatMap fun j=>(bk j).2).length≤3*l.length:=by
   intro l
   induction l with
   | nil=>simp
   | cons a l ih=>
    rw[List.flatMap_cons,List.length_append,List.length_cons]
    have:=lD a
    omega
  have h2:(cW H p.1).length≤36:=by
   unfold cW
   exact Nat.le_trans (List.length_filter_le _ _) (by simp)
  have:=h1 (cW H p.1)
  rw[List.length_cons]
  omega
theorem sa(H:Nat→Bool):(jH H).length≤324:=by
 unfold jH QN
 rw[List.length_map]
 refine Nat.le_trans (wZ _) ?_
 rw[List.length_mergeSort,List.length_map]
 exact DB H gQ
end Ex
structure Wx(w:World)(kl:List Ax.aA)(gv:Nat→Bool)(hm:Nat)(p:ByteArray)(ug:Nat):Prop where
 lt:ug<w.heap.size
 look:∀W:World,Below w.heap.size w W→(Instr.lookup 103 (.map (some hm)) (.string p) false).run Tryz.prog W=.ok (.pointer (some ⟨ug,0,none⟩)) W
 len:∀W:World,Below w.heap.size w W→Calls Tryz.prog 136 #[.pointer (some ⟨ug,0,none⟩)] W fun e w'=>e=.returned (.int .i64 (cW (En.al (En.af kl) gv) p).length)∧w'=W
 rows:∀W:World,Below w.heap.size w W→Calls Tryz.prog 133 #[.pointer (some ⟨ug,0,none⟩)] W fun e w'=>∃rd rc,e=.returned (.slice rd (cW (En.al (En.af kl) gv) p).length rc)∧w'.ownsRow W.heap.size 119 3 (.slice rd (cW (En.al (En.af kl) gv) p).length rc) (cW (En.al (En.af kl) gv) p).length (aK ((cW (En.al (En.af kl) gv) p).map fun j=>Tb.dw (bk j).2))∧Below W.heap.size W w'
 count:∀W:World,Below w.heap.size w W→∀j,j∈cW (En.al (En.af kl) gv) p→Calls Tryz.prog 43 #[.pointer (some ⟨ug,0,none⟩),.agg (Tb.fJ (bk j).2)] W fun e w'=>e=.returned (.int .i64 (lq kl gv j:Nat))∧Below W.heap.size W w'
structure Y7(w:World)(gv:Nat→Bool)(gm:Nat)(p:ByteArray)(tg:Nat):Prop where
 lt:tg<w.heap.size
 look:∀W:World,Below w.heap.size w W→(Instr.lookup 102 (.map (some gm)) (.string p) false).run Tryz.prog W=.ok (.pointer (some ⟨tg,0,none⟩)) W
 has:∀W:World,Below w.heap.size w W→∀j,j<36→(bk j).1=p→Calls Tryz.prog 42 #[.pointer (some ⟨tg,0,none⟩),.agg (Tb.fJ (bk j).2)] W fun e w'=>e=.returned (.bool (gv j))∧Below W.heap.size W w'
structure Oe(w:World)(kl:List Ax.aA)(gv:Nat→Bool)(rv:Value)(gm hm:Nat):Prop where
 nI:∀W:World,Below w.heap.size w W→Calls Tryz.prog 59 #[.agg #[.string (Ax.aC kl),rv]] W fun e w'=>∃qd qc,e=.returned (.slice qd 3 qc)∧w'.ownsRow W.heap.size 112 2 (.slice qd 3 qc) 3 (aF gQ)∧Below W.heap.size W w'
 U7:∀p,p∈gQ→∃ug,Wx w kl gv hm p.1 ug
 NT:∀p,p∈gQ→∃tg,Y7 w gv gm p.1 tg
theorem Oe.below{w w':World}{kl:List Ax.aA}{gv:Nat→Bool}{rv:Value}{gm hm:Nat}(h:Oe w kl gv rv gm hm)(hb:Below w.heap.size w w'):Oe w' kl gv rv gm hm:=by
 have key:∀W,Below w'.heap.size w' W→Below w.heap.size w W:=fun W hW=>hb.trans (hW.mono hb.size)
 refine⟨fun W hW=>h.nI W (key W hW),fun p hp=> ?_,fun p hp=> ?_⟩
 · obtain⟨ug,k⟩:=h.U7 p hp
   exact⟨ug,Nat.lt_of_lt_of_le k.lt hb.size,fun W hW=>k.look W (key W hW),fun W hW=>k.len W (key W hW),fun W hW=>k.rows W (key W hW),fun W hW=>k.count W (key W hW)⟩
 · obtain⟨tg,k⟩:=h.NT p hp
   exact⟨tg,Nat.lt_of_lt_of_le k.lt hb.size,fun W hW=>k.look W (key W hW),fun W hW=>k.has W (key W hW)⟩
end
/- An engine's state, as its calls answer. -/
section
open Go.RowKit Go.Maps
theorem ow(l:List ByteArray):Tb.fJ l=#[.string (Tb.dZ l 0),.string (Tb.dZ l 1),.string (Tb.dZ l 2)]:=rfl
theorem Nv{w:World}{rd:Option Addr}{rc:Nat}{l:List MR}{gm hm:Nat}{G:List GT}{T:List HT}{s:En.dH En.b7}{kl:List Ax.aA}{gv:Nat→Bool}(dS:aX w rd rc l)(he:(l.map MR.ay).map Ax.lj=Ax.gR kl)(hG:kY w gm G)(hR:gh G gv)(hH:pe w hm T s)(hI:En.Inv (En.sR (En.af kl)) (En.gF gv) s s.found.length)(hT:∀p,p∈T.map gX↔p∈jW)(hg:fX gv):Oe w kl gv (.slice rd l.length rc) gm hm:=by
 refine⟨?_, ?_, ?_⟩
 · intro W hW
   obtain⟨_,_,EE⟩:=ky dS he
   have cE:l≠[]:=by
    rintro rfl
    simp[Ax.gR,Ax.nO]at he
   refine(pw W (Ax.aC kl) rd rc l (dS.below hW) (by omega) (pq he) cE).mono ?_
   rintro e w' ⟨qd,qc,Q,rfl,h1,h2,h3⟩
   have hQ:Q=gQ:=RA h3.out.1 (fun p=>(h3.out.2 p).trans (eZ he p))
   subst hQ
   exact⟨qd,qc,rfl,h1,h2⟩
 · intro p hp9
   have hp:=oK hp9
   obtain⟨u,hu,nR⟩:=List.mem_map.1 ((hT _).2 hp)
   have R3:u.nm=p.1:=congrArg Prod.fst nR
   have hu3:u.pl=p.2:=congrArg Prod.snd nR
   have sI:p.1.size≤1000000:=Nat.le_trans (dO _ hp) (by decide)
   have LF:=uI hI
   have hlU:=hH.Cf u hu
   have dj:=En.mn kl
   have P3:=(hH.bR u hu).nW
   have Cr:∀r,r∈u.L↔(p.1,r)∈s.found:=fun r=>by rw[hH.rows u hu,R3]
   obtain⟨js,e1,e2,e3⟩:=N9 (H:=En.al (En.af kl) gv) (pl:=p.2) hp u.L (fun r hr=>by
    have h1:=(Cr r).1 hr
    obtain⟨j,hj,e⟩:=En.NH (En.tQ dj hI _ h1)
    rw[e]at h1
    exact⟨j,hj,(En.pf dj hg hI hj).1 h1,e⟩)
   have ab3:Lst (En.al (En.af kl) gv) p.1 js:=by
    refine⟨fun j=>⟨e3 j, ?_⟩, ?_⟩
    · rintro⟨hj,hH9,hd9⟩
      have h1:=(En.pf dj hg hI hj).2 hH9
      rw[iN,hd9]at h1
      have h2:=(Cr _).2 h1
      rw[e1]at h2
      obtain⟨i,hi,e⟩:=List.mem_map.1 h2
      obtain⟨UI,_,hid⟩:=e3 i hi
      have:i=j:=En.qq UI hj (by rw[iN,iN,hid,hd9,e])
      rw[←this]
      exact hi
    · have h1:Tb.Ord u.L:=P3.ord
      rw[e1]at h1
      exact List.pairwise_map.1 h1
   have Lv:=ab3.eq
   subst Lv
   have hlen:u.L.length=(cW (En.al (En.af kl) gv) p.1).length:=by rw[e1,List.length_map]
   refine⟨u.g,lt_of_heap P3.cP, ?_, ?_, ?_, ?_⟩
   · intro W hW
     exact(hH.below hW).map.look (by rw[←R3];exact oG hH.names hu) sI Tryz.underlying103 (Tryz.zeroValue97 W)
   · intro W hW
     rw[←hlen]
     exact Hd W u.g _ _ _ _ _ _ _ (P3.below hW)
   · intro W hW
     rw[←hlen,←e1]
     exact wg W u.g _ _ _ _ _ _ _ (P3.below hW) (by omega)
   · intro W hW j hj
     obtain⟨yW,hHj,Pu⟩:=gS.1 hj
     rw[ow]
     refine(Ar W u.g _ _ _ _ _ _ _ _ _ _ _ ((hH.bR u hu).below hW) (by omega)).mono ?_
     rintro e w' ⟨rfl,hb⟩
     refine⟨?_,hb⟩
     have Gh:Tb.Ord u.L:=(hH.bR u hu).nW.ord
     have hc:s.count (En.uF j)=lq kl gv j:=En.rQ dj hg hI yW
     have P7:(u.nm,Tb.dw (bk j).2)=En.uF j:=by rw[iN,R3,Pu]
     have e3:Tb.pR u.L u.C (Tb.dw (bk j).2)=lq kl gv j:=by
      rw[hH.tO u hu,zT Gh]
      by_cases h:Tb.jT u.L (Tb.dw (bk j).2)=true
      · rw[if_pos h,P7]
        exact hc
      · rw[if_neg h,←hc]
        rw[Tb.dA,hH.rows u hu,P7]at h
        exact(hH.zero _ h).symm
     rw[←e3]
     rfl
 · intro p hp9
   have hp:=oK hp9
   obtain⟨t,ht,iJ,la⟩:=hR.has (p:=p.1) (n:=p.2) hp
   have sI:p.1.size≤1000000:=Nat.le_trans (dO _ hp) (by decide)
   have hlL:t.L.length≤36:=Nat.le_trans (mI ht) (hR.sum hG.names (fun t ht=>bW.ord (hG.bR t ht)))
   refine⟨t.g,lt_of_heap (bW.cP (hG.bR t ht)), ?_, ?_⟩
   · intro W hW
     exact(hG.below hW).map.look (by rw[←iJ];exact gM hG.names ht) sI Tryz.underlying102 (Tryz.zeroValue122 W)
   · intro W hW j hj Pu
     rw[ow]
     refine(Bt W t.g _ _ _ _ _ _ _ _ _ _ ((hG.bR t ht).below hW) (by omega)).mono ?_
     rintro e w' ⟨rfl,hb⟩
     refine⟨?_,hb⟩
     have X6:(t.nm,Tb.dw (bk j).2)=En.uF j:=by rw[iN,iJ,Pu]
     have e1:Tb.jT t.L (Tb.dw (bk j).2)=gv j:=by
      rw[Bool.eq_iff_iff,Tb.dA,hR.rows t ht]
      constructor
      · rintro⟨i,hi,hgj,e⟩
        rw[X6]at e
        rw[←En.qq hi hj e]
        exact hgj
      · intro h
        exact⟨j,hj,h,X6.symm⟩
     rw[←e1]
     rfl
theorem Jw{w:World}{B eg:Nat}{kl:List Ax.aA}{gv:Nat→Bool}{n:Nat}(hE:nG w B eg kl gv n)(hg:fX gv):∃rd rn rc gm hm hd lv,w.heap[eg]?=some (.cells (bE (Ax.aC kl) (.slice rd rn rc) gm hm hd lv) 109 (0,0))∧hd.length=32∧Oe w kl gv (.slice rd rn rc) gm hm:=by
 obtain⟨pl,rd,rc,l,gm,G,hm,T,s,hd,lv,ln,lx,eb,dS,he,hG,hR,hH,hI,hT,cu,mz,xM,rfl⟩:=hE.at_
 exact⟨rd,l.length,rc,gm,hm,hd,lv,eb,cu,Nv dS he hG hR hH hI hT hg⟩
end
end Go.Proofs.YtdmicblafmhflaaGreatDoor
