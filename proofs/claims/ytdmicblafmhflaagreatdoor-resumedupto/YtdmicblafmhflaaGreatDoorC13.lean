/- Laws of no program: copies and cells of wide elements; worlds that are alike but for some blocks. -/
import Derived.WalkKit
import Derived.Below
import Derived.Laws.OwnMore
import Derived.Laws.CopyRow
import Derived.OwnWalk
import Derived.Lib.AppendZerosOnto
import Derived.Lib.ConvBytes
import Derived.Deep.AppendLies
import Derived.Deep.RegionLaw
import Derived.Lib.AppendStr
import Derived.Test.YtdmicblafmhflaaGreatDoorC12
set_option linter.unusedSimpArgs false
set_option linter.unusedVariables false
set_option maxHeartbeats 1000000
set_option maxRecDepth 100000
namespace Go.Proofs.YtdmicblafmhflaaGreatDoor
section
open Go.RowKit
theorem dL(P:Program)(w:World)(dT sT ty elem:TypeId)(g o X7 aaM:Nat)(a:Addr)(XK ac6:Nat)(cur:Array Value)(t:TypeId)(cs:List Value)(k m:Nat)
 (hu:P.underlying dT=some (.slice elem))(hs:(P.info? elem).map (·.size)=some k)
 (hg:w.heap[g]?=some (.cells cur t (0,0)))(hm:m=Nat.min XK X7)(hn:cs.length=m*k)
 (Vr:∀j v,cs[j]?=some v→w.cell? (a.add j)=some v)(kg:o+cs.length≤cur.size)(h1:∀v∈cs,v.oneCell'=true):
 (Builtin.copy_ #[dT,sT] ty #[.slice (some ⟨g,o,none⟩) X7 aaM,.slice (some a) XK ac6]).run P w=
   .ok (goInt m) (w.setRow g (cur.toList.take o++cs++cur.toList.drop (o+cs.length)).toArray):=by
 have hl:=run_loadCells_list (P:=P) w a cs Vr
 have eL:=run_storeCells_at P g o t cs 0 cur w hg (by simpa using kg) h1
 cases hq:P.info? elem with
 | none=>simp[hq]at hs
 | some i=>
  have hi:i.size=k:=by simpa [hq]using hs
  simp[Builtin.copy_,run_underlying hu,Builtin.lenOf,Builtin.firstCells,sizeOf,typeInfo,hq,hi,←hm,←hn,hl,eL]
structure Kb(S:List Nat)(w w':World):Prop where
 os:w'.os=w.os
 tape:w'.tape=w.tape
 output:w'.output=w.output
 size:w.heap.size≤w'.heap.size
 block:∀k,k<w.heap.size→¬k∈S→w'.heap[k]?=w.heap[k]?
theorem Kb.refl(S:List Nat)(w:World):Kb S w w:=⟨rfl,rfl,rfl,Nat.le_refl _,fun _ _ _=>rfl⟩
theorem Kb.trans{S:List Nat}{w w1 w2:World}(h:Kb S w w1)(k:Kb S w1 w2):Kb S w w2:=
 ⟨k.os.trans h.os,k.tape.trans h.tape,k.output.trans h.output,Nat.le_trans h.size k.size,fun i hi hr=>(k.block i (Nat.lt_of_lt_of_le hi h.size) hr).trans (h.block i hi hr)⟩
theorem Kb.trans'{S S':List Nat}{w w1 w2:World}(h:Kb S w w1)(k:Kb S' w1 w2)(hS:∀i,i∈S'→i<w.heap.size→i∈S):Kb S w w2:=
 ⟨k.os.trans h.os,k.tape.trans h.tape,k.output.trans h.output,Nat.le_trans h.size k.size,fun i hi hr=>(k.block i (Nat.lt_of_lt_of_le hi h.size) (fun e=>hr (hS i e hi))).trans (h.block i hi hr)⟩
theorem Kb.mono{S S':List Nat}{w w':World}(h:Kb S w w')(hS:∀i,i∈S→i<w.heap.size→i∈S'):Kb S' w w':=
 ⟨h.os,h.tape,h.output,h.size,fun i hi hr=>h.block i hi (fun e=>hr (hS i e hi))⟩
theorem Kb.drew{S:List Nat}{w w':World}(h:Kb S w w'):Kb S w w'.drew:=⟨h.os,h.tape,h.output,h.size,h.block⟩
theorem Kb.alloc{S:List Nat}{w w':World}(h:Kb S w w')(o:Obj):Kb S w (w'.alloc o):=
 h.trans ⟨rfl,rfl,rfl,by simp,fun k hk _=>Below.heap_alloc _ _ _ hk⟩
theorem Kb.below{S:List Nat}{w w1 w2:World}(h:Kb S w w1)(k:Below w1.heap.size w1 w2):Kb S w w2:=
 h.trans ⟨k.os,k.tape,k.output,k.size,fun i hi _=>k.block i hi⟩
theorem Kb.bM{w w1:World}(k:Below w.heap.size w w1)(S:List Nat):Kb S w w1:=(Kb.refl S w).below k
theorem Kb.dV{w w1:World}{row:Option Nat}(k:w.grownBy w1 row):Kb row.toList w w1:=
 ⟨k.os,k.tape,k.output,k.size,fun i hi hr=>k.block i hi (fun e=>hr (by rw[←e];simp))⟩
theorem Kb.aU{S:List Nat}{w0 w w':World}{B:Nat}(h:Kb S w w')(h0:Below B w0 w)(hB:B≤w.heap.size)(hS:∀i,i∈S→B≤i):Below B w0 w':=
 h0.trans ⟨h.os,h.tape,h.output,h.size,fun i hi=>h.block i (by omega) (fun e=>by have:=hS i e;omega)⟩
theorem Kb.heap{S:List Nat}{w w':World}(h:Kb S w w'){k:Nat}{o:Obj}(hk:w.heap[k]?=some o)(hS:¬k∈S):w'.heap[k]?=some o:=by
 rw[h.block k (Array.getElem?_eq_some_iff.1 hk).1 hS,hk]
theorem Kb.row{S:List Nat}{w w':World}{base:Nat}{e:TypeId}{size:Nat}{v:Value}{n:Nat}{xs:List Value}(h:Kb S w w')(ho:w.ownsRow base e size v n xs)(hS:∀b,v.ownBlock=some b→¬b∈S):w'.ownsRow base e size v n xs:=by
 refine⟨ho.1, ?_⟩
 rcases ho.2 with h0 | ⟨g,cap,cur,rfl,hb,hg,hr⟩
 · exact .inl h0
 · exact .inr ⟨g,cap,cur,rfl,hb,h.heap hg (hS g rfl),hr⟩
theorem Kb.fC{S:List Nat}{w w':World}{base:Nat}{e:TypeId}{size:Nat}{v:Value}{n:Nat}{xs:List Value}(h:Kb S w w')(ho:w.ownsRow base e size v n xs)(hS:∀b cur fz,b∈S→w.heap[b]?=some (.cells cur e fz)→False):w'.ownsRow base e size v n xs:=by
 refine h.row ho ?_
 intro b hb hc
 rcases ho.2 with⟨rfl,_⟩ | ⟨g,cap,cur,rfl,_,hg,_⟩
 · cases hb
 · simp only[Value.ownBlock,Option.some.injEq]at hb
   subst hb
   exact hS _ _ _ hc hg
theorem bz(w:World)(g:Nat)(cs:Array Value){cur:Array Value}{t:TypeId}{fr:Nat×Nat}(h:w.heap[g]?=some (.cells cur t fr)):(w.setRow g cs).heap[g]?=some (.cells cs t fr):=setRow_heap w g cur cs t fr h
theorem eu(w:World)(g k:Nat)(cs:Array Value)(h:k≠g):(w.setRow g cs).heap[k]?=w.heap[k]?:=by
 simp only[World.setRow,Array.getElem?_modify]
 rw[if_neg (by omega)]
theorem Kb.setRow(w:World)(g:Nat)(cs:Array Value):Kb [g] w (w.setRow g cs):=
 ⟨rfl,rfl,rfl,by simp[World.setRow],fun k _ hr=>eu w g k cs (by simpa using hr)⟩
theorem Kb.setCell(w:World)(a:Addr)(v:Value):Kb [a.block] w (w.setCell a v):=
 ⟨rfl,rfl,rfl,by simp[World.setCell],fun k _ hr=>Below.heap_setCell _ _ _ _ (by simpa using hr)⟩
def cr(w:World)(v v':Value):Prop:=∀b,v'.ownBlock=some b→v.ownBlock=some b∨w.heap.size≤b
theorem cr.refl(w:World)(v:Value):cr w v v:=fun _ h=>.inl h
theorem cr.mono{w W:World}{u v:Value}(h:cr W u v)(hs:w.heap.size≤W.heap.size):cr w u v:=by
 intro b hb
 rcases h b hb with e | e
 · exact .inl e
 · exact .inr (Nat.le_trans hs e)
end
/- Rows of bytes whose mark lies behind them. No program here. -/
section
open Go.RowKit
def Um(fz:Nat×Nat)(n:Nat):Prop:=fz=(0,0)∨n≤fz.1
theorem CE{w:World}{g:Nat}{cur:Array Value}{t:TypeId}{fz:Nat×Nat}(hg:w.heap[g]?=some (.cells cur t fz))(hz:Um fz cur.size){j:Nat}(hj:j<cur.size):w.frozen? ⟨g,j,none⟩=false:=by
 rcases hz with rfl | h
 · simp[World.frozen?,hg]
 · simp[World.frozen?,hg]
   omega
theorem jV(P:Program)(g o:Nat)(t:TypeId)(fz:Nat×Nat):∀(vs:List Value) (i:Nat) (cur:Array Value) (w:World),w.heap[g]?=some (.cells cur t fz)→Um fz cur.size→o+i+vs.length≤cur.size→(∀v∈vs,v.oneCell'=true)→
 (storeCells ⟨g,o,none⟩ vs i).run P w=.ok () (w.setRow g (cur.toList.take (o+i)++vs++cur.toList.drop (o+i+vs.length)).toArray)
 | [],i,cur,w,hg,_,_,_=>by
  simp only[storeCells,List.append_nil,List.length_nil,Nat.add_zero,List.take_append_drop,Array.toArray_toList]
  rw[setRow_self w g cur t fz hg]
  rfl
 | v::rest,i,cur,w,hg,hz,hl,h1=>by
  have hi:o+i<cur.size:=by simp at hl;omega
  have ef:(⟨g,o,none⟩:Addr).add i=⟨g,o+i,none⟩:=by unfold Addr.add;split<;>simp_all
  have kq:w.cell? ⟨g,o+i,none⟩=some cur[o+i]:=by simp[World.cell?,hg,hi]
  have acF:w.frozen? ⟨g,o+i,none⟩=false:=CE hg hz hi
  have eL:(store ((⟨g,o,none⟩:Addr).add i) v).run P w=.ok () (w.setRow g (cur.setIfInBounds (o+i) v)):=by
   rw[ef,run_store P w _ v _ (h1 v (by simp)),kq]
   simp[acF,setCell_eq_setRow w g (o+i) cur t fz v hg]
  have ih:=jV P g o t fz rest (i+1) (cur.setIfInBounds (o+i) v) (w.setRow g (cur.setIfInBounds (o+i) v)) (setRow_heap w g cur _ t _ hg) (by simpa using hz) (by simp at hl ⊢;omega) (fun x hx=>h1 x (by simp[hx]))
  simp only[storeCells,Sem.run_bind,eL,Result.andThen_ok,ih,setRow_setRow]
  congr 3
  have e:=list_seg_step cur.toList (o+i) v rest (by simp at hl ⊢;omega)
  simpa [Array.toList_setIfInBounds,Nat.add_assoc]using e
def lV(w:World)(base:Nat)(e:TypeId)(v:Value)(n:Nat)(xs:List Value):Prop:=
 xs.length=n∧∃g cap cur fz,v=.slice (some ⟨g,0,none⟩) n cap∧base≤g∧w.heap[g]?=some (.cells cur e fz)∧Um fz cur.size∧n≤cap∧cap≤maxLen∧cur.size=cap∧cur.toList.take n=xs
theorem lV.lt{w:World}{base:Nat}{e:TypeId}{v:Value}{n:Nat}{xs:List Value}(h:lV w base e v n xs):∃g cap,v=.slice (some ⟨g,0,none⟩) n cap∧base≤g∧g<w.heap.size∧n≤cap∧∀j u,xs[j]?=some u→w.cell? ⟨g,j,none⟩=some u:=by
 obtain⟨h1,g,cap,cur,fz,rfl,hb,hg,hz,hn,hm,hs,ht⟩:=h
 refine⟨g,cap,rfl,hb,(Array.getElem?_eq_some_iff.1 hg).1,hn,fun j u hj=> ?_⟩
 rw[cell_of_row w g j cur e fz hg]
 rw[←ht,List.getElem?_take]at hj
 split at hj
 · simpa using hj
 · cases hj
theorem lV.alloc{w:World}{base:Nat}{e:TypeId}{v:Value}{n:Nat}{xs:List Value}(h:lV w base e v n xs)(o:Obj):lV (w.alloc o) base e v n xs:=by
 obtain⟨h1,g,cap,cur,fz,rfl,hb,hg,rest⟩:=h
 exact⟨h1,g,cap,cur,fz,rfl,hb,by rw[Below.heap_alloc _ _ _ (Array.getElem?_eq_some_iff.1 hg).1];exact hg,rest⟩
theorem lV.kept{w w':World}{S:List Nat}{base:Nat}{e:TypeId}{v:Value}{n:Nat}{xs:List Value}(h:lV w base e v n xs)(hk:Kb S w w')(hS:∀b,v.ownBlock=some b→¬b∈S):lV w' base e v n xs:=by
 obtain⟨h1,g,cap,cur,fz,rfl,hb,hg,rest⟩:=h
 exact⟨h1,g,cap,cur,fz,rfl,hb,hk.heap hg (hS g rfl),rest⟩
theorem uW{P:Program}(w:World)(base:Nat)(t ty e:TypeId)(i:TypeInfo)(z:Value)(bytes:Nat)(ht:P.underlying t=some (.slice e))(hi:P.info? e=some i)(hz:i.zero=some z)(gK:i.size=1)(EB:i.bytes=bytes)(uA:z.cells.size=1)
 (v:Value)(n:Nat)(xs:List Value)(au:lV w base e v n xs)(a:Addr)(m c:Nat)(news:List Value)(hl:news.length=m)(eC:∀j u,news[j]?=some u→w.cell? (a.add j)=some u)(h1:∀u∈news,u.oneCell'=true)
 (EH:n+m≤maxLen)(iC:(n+m)*bytes≤140737488355328)(jw:base≤w.heap.size):
 ∃v' w',(Builtin.append_ #[t,t] ty #[v,.slice (some a) m c]).run P w=.ok v' w'∧lV w' base e v' (n+m) (xs++news)∧w.grownBy w' v.ownBlock:=by
 subst EB
 have TE:n+m≤9223372036854775807:=by simp only[maxLen]at EH;omega
 have hlen:(xs++news).length=n+m:=by rw[List.length_append,au.1,hl]
 obtain⟨_,g,cap,cur,fz,rfl,OZ,hg,Sr,Vw,yG,br,GS⟩:=au
 have oP:xs.length=n:=by rw[←GS,List.length_take];simp;omega
 by_cases kQ:n+m≤cap
 · have hf:=run_firstCells_some (P:=P) w i.size m a m c news (by rw[gK,hl];omega) eC
   have eL:=jV P g n e fz news 0 cur w hg Sr (by simp;omega) h1
   simp only[Nat.add_zero]at eL
   refine⟨.slice (some ⟨g,0,none⟩) (n+m) cap,w.setRow g (cur.toList.take n++news++cur.toList.drop (n+news.length)).toArray, ?_,⟨hlen,g,cap,(cur.toList.take n++news++cur.toList.drop (n+news.length)).toArray,fz,rfl,OZ,setRow_heap w g cur _ e _ hg, ?_,kQ,yG, ?_, ?_⟩,⟨rfl,rfl,rfl,by simp,fun k _ hk=>setRow_other w g k _ (fun e=>hk (by simp[Value.ownBlock,e]))⟩⟩
   · rw[gK]at hf
     simp[Builtin.append_,run_underlying ht,sizeOf,typeInfo,hi,Builtin.lenOf,kQ,hf,Addr.add_lit,eL,gK]
   · have:(cur.toList.take n++news++cur.toList.drop (n+news.length)).toArray.size=cur.size:=by
      simp only[List.size_toArray,List.length_append,List.length_take,List.length_drop,Array.length_toList]
      omega
     rw[this]
     exact Sr
   · simp only[List.size_toArray,List.length_append,List.length_take,List.length_drop,Array.length_toList]
     omega
   · rw[GS,←hlen]
     exact List.take_left
 · have holds:∀j u,xs[j]?=some u→w.cell? ((⟨g,0,none⟩:Addr).add j)=some u:=by
    intro j u hj
    have ef:(⟨g,0,none⟩:Addr).add j=⟨g,j,none⟩:=by unfold Addr.add;split<;>simp_all
    rw[ef,cell_of_row w g j cur e fz hg]
    rw[←GS,List.getElem?_take]at hj
    split at hj
    · simpa using hj
    · cases hj
   have hr:=run_append_grow (P:=P) w t ty e i z ht hi hz ⟨g,0,none⟩ n cap xs (by rw[gK,oP];omega) holds a m c news (by rw[gK,hl];omega) eC (by omega) (by omega) (growslice_fits (by omega) iC)
   have AM:=grownCap_ge w (n+m) cap e
   have aec:grownCap w (n+m) cap e≤maxLen:=grownCap_le_maxLen w (n+m) cap e EH
   refine⟨_,_,hr,⟨hlen,w.heap.size,_,_,(0,0),rfl,jw,heap_alloc_new w.drew _,.inl rfl,AM,aec, ?_, ?_⟩,⟨rfl,rfl,rfl,by simp,fun k hk _=>heap_alloc_old w.drew _ hk⟩⟩
   · simp only[Array.size_append,List.size_toArray,size_zeroCells,uA,oP,hl]
     omega
   · simp only[Array.toList_append,List.append_assoc]
     rw[←List.append_assoc,←hlen]
     exact List.take_left
theorem gI{P:Program}(w:World){ops:Array Oper}{rest:List Oper}{o:Oper}{a:Act}{Q:Exit→Act→World→Prop}(Aa:o.guard=none)(s x:Operand)(t:TypeId)
 (ho:o.op=.call {callee:=.builtin .append,args:=#[s,x],argTypes:=#[t,t]})
 (base:Nat)(e:TypeId)(i:TypeInfo)(z:Value)(bytes:Nat)(ht:P.underlying t=some (.slice e))(hi:P.info? e=some i)(hz:i.zero=some z)(gK:i.size=1)(EB:i.bytes=bytes)(uA:z.cells.size=1)
 (v:Value)(n:Nat)(xs:List Value)(hs:a.eval s=v)(au:lV w base e v n xs)
 (ad:Addr)(m c:Nat)(news:List Value)(hx:a.eval x=.slice (some ad) m c)(hl:news.length=m)(eC:∀j u,news[j]?=some u→w.cell? (ad.add j)=some u)(h1:∀u∈news,u.oneCell'=true)
 (EH:n+m≤maxLen)(iC:(n+m)*bytes≤140737488355328)(jw:base≤w.heap.size)
 (h:∀v' w',lV w' base e v' (n+m) (xs++news)→w.grownBy w' v.ownBlock→wpList P ops Q rest (a.put o.dst v') w'):wpList P ops Q (o::rest) a w:=by
 refine wpList_plain Aa fun _ hK=> ?_
 obtain⟨v',w',hr,h2,h3⟩:=uW (P:=P) w base t o.type e i z bytes ht hi hz gK EB uA v n xs au ad m c news hl eC h1 EH iC jw
 unfold Oper.wp execOp
 simp only[ho,resolve,invoke,builtin,Sem.run_bind,Sem.run_pure,Result.andThen_ok,List.map_toArray,List.map_cons,List.map_nil,hs,hx,hr]
 exact hK _ _ (h v' w' h2 h3)
def byteCells(s:ByteArray):List Value:=s.data.toList.map fun b=>.int .u8 (b.toNat:Int)
end
/- append, and what becomes of the row that was there: its cells stay. A law of no program. -/
section
open Go.RowKit
section
variable {P : Program} (w : World)
theorem va(t ty:TypeId)(base:Nat)(e:TypeId)(i:TypeInfo)(z:Value)(size bytes:Nat)(ht:P.underlying t=some (.slice e))(hi:P.info? e=some i)(hz:i.zero=some z)
 (gK:i.size=size)(EB:i.bytes=bytes)(uA:z.cells.size=size)(cR:0<size)
 (v:Value)(n:Nat)(xs:List Value)(au:w.ownsRow base e size v n xs)
 (ad:Addr)(m c:Nat)(news:List Value)(hl:news.length=m*size)(eC:∀j u,news[j]?=some u→w.cell? (ad.add j)=some u)(h1:∀u∈news,u.oneCell'=true)
 (hm:0<m)(EH:n+m≤maxLen)(iC:(n+m)*bytes≤140737488355328)(jw:base≤w.heap.size):
 ∃g cap w',(Builtin.append_ #[t,t] ty #[v,.slice (some ad) m c]).run P w=.ok (.slice (some ⟨g,0,none⟩) (n+m) cap) w'∧
  w'.ownsRow base e size (.slice (some ⟨g,0,none⟩) (n+m) cap) (n+m) (xs++news)∧w.grownBy w' v.ownBlock∧cr w v (.slice (some ⟨g,0,none⟩) (n+m) cap)∧(∀(b:Nat),v.ownBlock=some b→(∃cur,w'.heap[b]?=some (.cells cur e (0,0)))∧∀j,j<n*size→w'.cell? ⟨b,j,none⟩=w.cell? ⟨b,j,none⟩):=by
 obtain⟨g,cap,w',hr,h2,h3,h4,h5⟩:=run_append_lies (P:=P) w t ty base e i z size bytes ht hi hz gK EB uA cR v n xs au ad m c news hl eC h1 hm EH iC jw w.heap.size rfl
 refine⟨g,cap,w',hr,h2,h3, ?_, ?_⟩
 · intro b hb
   simp only[Value.ownBlock,Option.some.injEq]at hb
   subst hb
   rcases h4 with h | h
   · exact .inl h
   · exact .inr (by omega)
 · intro b hb
   subst gK
   subst EB
   rcases au.2 with⟨rfl,_⟩ | ⟨g',E4,cur,rfl,_,hg,Vw,yG,br,sN⟩
   · cases hb
   · simp only[Value.ownBlock,Option.some.injEq]at hb
     subst hb
     have aG:g'<w.heap.size:=(Array.getElem?_eq_some_iff.1 hg).1
     by_cases kQ:n+m≤E4
     · have kg:n*i.size+news.length≤cur.size:=by rw[hl,br,←Nat.add_mul];exact Nat.mul_le_mul_right _ kQ
       have zm:=run_append_room (P:=P) w t ty e i ht hi g' n E4 cur hg ad m c news hl eC h1 kQ kg
       rw[zm]at hr
       simp only[Result.ok.injEq]at hr
       rw[←hr.2]
       refine⟨⟨_,bz w g' _ hg⟩,fun j hj=> ?_⟩
       have hjc:j<cur.size:=by rw[br];exact Nat.lt_of_lt_of_le hj (Nat.mul_le_mul_right _ Vw)
       rw[cell_of_row _ g' j _ _ _ (bz w g' _ hg),cell_of_row _ g' j _ _ _ hg]
       simp only[List.getElem?_toArray]
       rw[List.append_assoc,List.getElem?_append_left (by rw[List.length_take,Array.length_toList];omega),List.getElem?_take,if_pos hj]
       simp
     · have holds:∀j u,xs[j]?=some u→w.cell? ((⟨g',0,none⟩:Addr).add j)=some u:=au.cells (g:=g') rfl
       have AQ:n+m≤9223372036854775807:=by unfold maxLen at EH;omega
       have zm:=run_append_grow (P:=P) w t ty e i z ht hi hz ⟨g',0,none⟩ n E4 xs au.1 holds ad m c news hl eC (by omega) (by omega) (growslice_fits (by omega) iC)
       rw[zm]at hr
       simp only[Result.ok.injEq]at hr
       rw[←hr.2]
       refine⟨⟨cur, ?_⟩,fun j _=>World.cell?_of_block (Below.heap_alloc w.drew _ _ aG)⟩
       rw[Below.heap_alloc w.drew _ _ aG]
       exact hg
theorem ya{o:Oper}{a:Act}{K:Act→World→Prop}{Q:Exit→Act→World→Prop}(s x:Operand)(t:TypeId)
 (ho:o.op=.call {callee:=.builtin .append,args:=#[s,x],argTypes:=#[t,t]})
 (base:Nat)(e:TypeId)(i:TypeInfo)(z:Value)(size bytes:Nat)(ht:P.underlying t=some (.slice e))(hi:P.info? e=some i)(hz:i.zero=some z)
 (gK:i.size=size)(EB:i.bytes=bytes)(uA:z.cells.size=size)(cR:0<size)
 (v:Value)(n:Nat)(xs:List Value)(hs:a.eval s=v)(au:w.ownsRow base e size v n xs)
 (ad:Addr)(m c:Nat)(news:List Value)(hx:a.eval x=.slice (some ad) m c)(hl:news.length=m*size)(eC:∀j u,news[j]?=some u→w.cell? (ad.add j)=some u)(h1:∀u∈news,u.oneCell'=true)
 (hm:0<m)(EH:n+m≤maxLen)(iC:(n+m)*bytes≤140737488355328)(jw:base≤w.heap.size)
 (h:∀g cap w',w'.ownsRow base e size (.slice (some ⟨g,0,none⟩) (n+m) cap) (n+m) (xs++news)→w.grownBy w' v.ownBlock→cr w v (.slice (some ⟨g,0,none⟩) (n+m) cap)→(∀(b:Nat),v.ownBlock=some b→(∃cur,w'.heap[b]?=some (.cells cur e (0,0)))∧∀j,j<n*size→w'.cell? ⟨b,j,none⟩=w.cell? ⟨b,j,none⟩)→K (a.put o.dst (.slice (some ⟨g,0,none⟩) (n+m) cap)) w'):o.wp P a w K Q:=by
 obtain⟨g,cap,w',hr,h2,h3,h4,h5⟩:=va (P:=P) w t o.type base e i z size bytes ht hi hz gK EB uA cR v n xs au ad m c news hl eC h1 hm EH iC jw
 unfold Oper.wp execOp
 simp only[ho,resolve,invoke,builtin,Sem.run_bind,Sem.run_pure,Result.andThen_ok,List.map_toArray,List.map_cons,List.map_nil,hs,hx,hr]
 exact h g cap w' h2 h3 h4 h5
theorem sU{ops:Array Oper}{o:Oper}{a:Act}{K:Act→World→Prop}{Q:Exit→Act→World→Prop}{E:Prop}(Aa:o.guard=none)(s x:Operand)(t:TypeId)
 (ho:o.op=.call {callee:=.builtin .append,args:=#[s,x],argTypes:=#[t,t]})
 (base:Nat)(e:TypeId)(i:TypeInfo)(z:Value)(size bytes:Nat)(ht:P.underlying t=some (.slice e))(hi:P.info? e=some i)(hz:i.zero=some z)
 (gK:i.size=size)(EB:i.bytes=bytes)(uA:z.cells.size=size)(cR:0<size)
 (v:Value)(n:Nat)(xs:List Value)(hs:a.eval s=v)(au:w.ownsRow base e size v n xs)
 (ad:Addr)(m c:Nat)(news:List Value)(hx:a.eval x=.slice (some ad) m c)(hl:news.length=m*size)(eC:∀j u,news[j]?=some u→w.cell? (ad.add j)=some u)(h1:∀u∈news,u.oneCell'=true)
 (hm:0<m)(EH:n+m≤maxLen)(iC:(n+m)*bytes≤140737488355328)(jw:base≤w.heap.size)
 (h:∀g cap w',w'.ownsRow base e size (.slice (some ⟨g,0,none⟩) (n+m) cap) (n+m) (xs++news)→w.grownBy w' v.ownBlock→cr w v (.slice (some ⟨g,0,none⟩) (n+m) cap)→(∀(b:Nat),v.ownBlock=some b→(∃cur,w'.heap[b]?=some (.cells cur e (0,0)))∧∀j,j<n*size→w'.cell? ⟨b,j,none⟩=w.cell? ⟨b,j,none⟩)→K (a.put o.dst (.slice (some ⟨g,0,none⟩) (n+m) cap)) w'):
 if Region.wanted o (yielded ops a.tmps)=true then Oper.wp P o a w K Q else E:=by
 have hw:Region.wanted o (yielded ops a.tmps)=true:=by simp[Region.wanted,Aa]
 rw[if_pos hw]
 exact ya w s x t ho base e i z size bytes ht hi hz gK EB uA cR v n xs hs au ad m c news hx hl eC h1 hm EH iC jw h
end
end
/- append, and where the new row lies; a string's bytes behind a row. Laws of no program. -/
section
open Go.RowKit
theorem Hc{w wr w2:World}{v a:Value}{o:Obj}{g n cap:Nat}(hk:Kb v.ownBlock.toList w wr)(hf:cr w v a)(bx:(wr.alloc o).grownBy w2 a.ownBlock)(uR:a.ownBlock=some g∨g=wr.heap.size+1):Kb v.ownBlock.toList w w2∧cr w v (.slice (some ⟨g,0,none⟩) n cap):=by
 have hs:=hk.size
 refine⟨(hk.alloc o).trans' (Kb.dV bx) (fun i hi aG=> ?_),fun b hb=> ?_⟩
 · rw[Option.mem_toList]at hi ⊢
   rcases hf i hi with h | h
   · exact h
   · omega
 · simp only[Value.ownBlock,Option.some.injEq]at hb
   subst hb
   rcases uR with h | h
   · exact hf _ h
   · exact .inr (by omega)
theorem Ii{w wr w2:World}{v a v2:Value}(hk:Kb v.ownBlock.toList w wr)(hf:cr w v a)(bx:wr.grownBy w2 a.ownBlock)(h2:cr wr a v2):Kb v.ownBlock.toList w w2∧cr w v v2:=by
 have hs:=hk.size
 refine⟨hk.trans' (Kb.dV bx) (fun i hi aG=> ?_),fun b hb=> ?_⟩
 · rw[Option.mem_toList]at hi ⊢
   rcases hf i hi with h | h
   · exact h
   · omega
 · rcases h2 b hb with h | h
   · exact hf _ h
   · exact .inr (by omega)
section
variable {P : Program} (w : World)
theorem sZ(base:Nat)(t u ty e:TypeId)(i:TypeInfo)(ht:P.underlying t=some (.slice e))(hu:P.underlying u=some .string)(hi:P.info? e=some i)(hz:i.zero=some (.int .u8 0))
 (gK:i.size=1)(EB:i.bytes=1)(v:Value)(n:Nat)(xs:List Value)(au:w.ownsRow base e 1 v n xs)(s:ByteArray)
 (EH:n+s.size≤maxLen)(iC:n+s.size≤140737488355328){v':Value}{w':World}(hr:(Builtin.append_ #[t,u] ty #[v,.string s]).run P w=.ok v' w')(GH:v'=.slice none 0 0↔v=.slice none 0 0∧s.size=0):cr w v v':=by
 have TE:n+s.size≤9223372036854775807:=by simp only[maxLen]at EH;omega
 have oP:xs.length=n:=by simpa using au.1
 intro b hb
 have bF:=au.2
 rcases bF with⟨rfl,rfl⟩ | ⟨g,cap,cur,rfl,OZ,hg,Vw,yG,br,GS⟩
 · by_cases hm:s.size=0
   · rw[GH.2 ⟨rfl,hm⟩]at hb
     cases hb
   · have Pb:=run_append_nil_string (P:=P) w t u ty e i (.int .u8 0) ht hu hi hz s (by omega) (by omega) (by rw[EB];omega)
     rw[Pb]at hr
     simp only[Result.ok.injEq]at hr
     rw[←hr.1]at hb
     simp only[Value.ownBlock,Option.some.injEq]at hb
     exact .inr (by omega)
 · by_cases kQ:n+s.size≤cap
   · have ahk:cur.size=cap:=by simpa using br
     have Pb:=Lib.run_append_room_string (P:=P) w t u ty e i ht hu hi gK g n cap cur hg s kQ (by omega)
     rw[Pb]at hr
     simp only[Result.ok.injEq]at hr
     rw[←hr.1]at hb
     simp only[Value.ownBlock,Option.some.injEq]at hb
     subst hb
     exact .inl rfl
   · have holds:∀j u,xs[j]?=some u→w.cell? ((⟨g,0,none⟩:Addr).add j)=some u:=au.cells (g:=g) rfl
     have Pb:=Lib.run_append_grow_string (P:=P) w t u ty e i (.int .u8 0) ht hu hi hz ⟨g,0,none⟩ n cap xs (by rw[gK];simpa using oP) holds s (by omega) (by omega) (by rw[EB];exact growslice_fits (by omega) (by omega))
     rw[Pb]at hr
     simp only[Result.ok.injEq]at hr
     rw[←hr.1]at hb
     simp only[Value.ownBlock,Option.some.injEq]at hb
     exact .inr (by omega)
theorem nZ{ops:Array Oper}{rest:List Oper}{o:Oper}{a:Act}{Q:Exit→Act→World→Prop}(Aa:o.guard=none)(sl x:Operand)(t u:TypeId)
 (ho:o.op=.call {callee:=.builtin .append,args:=#[sl,x],argTypes:=#[t,u]})
 (base:Nat)(e:TypeId)(i:TypeInfo)(ht:P.underlying t=some (.slice e))(hu:P.underlying u=some .string)(hi:P.info? e=some i)(hz:i.zero=some (.int .u8 0))
 (gK:i.size=1)(EB:i.bytes=1)
 (v:Value)(n:Nat)(xs:List Value)(hs:a.eval sl=v)(au:w.ownsRow base e 1 v n xs)(s:ByteArray)(hx:a.eval x=.string s)
 (EH:n+s.size≤maxLen)(iC:n+s.size≤140737488355328)(jw:base≤w.heap.size)
 (h:∀v' w',w'.ownsRow base e 1 v' (n+s.size) (xs++Lib.strCells s)→w.grownBy w' v.ownBlock→cr w v v'→wpList P ops Q rest (a.put o.dst v') w'):wpList P ops Q (o::rest) a w:=by
 refine wpList_plain Aa fun K hK=> ?_
 obtain⟨v',w',hr,h2,h3,h4⟩:=Lib.run_append_own_string (P:=P) w base t u o.type e i ht hu hi hz gK EB v n xs au s EH iC jw
 have h5:=sZ w base t u o.type e i ht hu hi hz gK EB v n xs au s EH iC hr h4
 unfold Oper.wp execOp
 simp only[ho,resolve,invoke,builtin,Sem.run_bind,Sem.run_pure,Result.andThen_ok,List.map_toArray,List.map_cons,List.map_nil,hs,hx,hr]
 exact hK _ _ (h v' w' h2 h3 h5)
end
end
/- Package encode: numbers and texts as bytes. -/
section
open Go.RowKit
namespace Rc
def aZ(n:Nat):List UInt8:=if n≤127 then [UInt8.ofNat n]else UInt8.ofNat (n%128+128)::aZ (n/128)
def bP(l:List UInt8):List Value:=l.map fun b=>.int .u8 (b.toNat:Int)
theorem gz(a b:List UInt8):bP (a++b)=bP a++bP b:=by simp[bP]
theorem bN(l:List UInt8):(bP l).length=l.length:=by simp[bP]
theorem sB(l:List UInt8):∀u∈bP l,u.oneCell'=true:=by
 intro u hu
 obtain⟨b,_,rfl⟩:=List.mem_map.1 hu
 rfl
theorem qI{n:Nat}(h:n≤127):aZ n=[UInt8.ofNat n]:=by rw[aZ,if_pos h]
theorem xP{n:Nat}(h:¬n≤127):aZ n=UInt8.ofNat (n%128+128)::aZ (n/128):=by rw[aZ,if_neg h]
theorem oL:∀(k n:Nat),n<128^k→0<k→(aZ n).length≤k
 | 0,n,_,h=>by omega
 | k+1,n,hn,_=>by
  by_cases h:n≤127
  · rw[qI h];simp
  · rw[xP h,List.length_cons]
    cases k with
    | zero=>simp at hn;omega
    | succ k=>
     have:=oL (k+1) (n/128) (by rw[Nat.pow_succ]at hn;exact Nat.div_lt_of_lt_mul (by rw[Nat.mul_comm];exact hn)) (by omega)
     omega
def aS(t:ByteArray):List UInt8:=aZ t.size++t.data.toList
theorem YU:∀x:Fin 128,bits .or .u8 ((x.1:Nat):Int) 128=((x.1+128:Nat):Int):=by decide
theorem S8(m:Nat)(h:m<4611686018427387904):bits .and .i64 (m:Int) 127=((m%128:Nat):Int):=by
 have e:(BitVec.ofInt 64 (m:Int)&&&BitVec.ofInt 64 127).toNat=m%128:=by
  rw[BitVec.toNat_and]
  have h1:(BitVec.ofInt 64 (m:Int)).toNat=m:=by
   rw[BitVec.ofInt_natCast,BitVec.toNat_ofNat]
   omega
  have h2:(BitVec.ofInt 64 127).toNat=2^7-1:=by decide
  rw[h1,h2,Nat.and_two_pow_sub_one_eq_mod]
 show IntKind.i64.wrap (((BitVec.ofInt 64 (m:Int)&&&BitVec.ofInt 64 127).toNat:Nat):Int)=_
 rw[e]
 simp[IntKind.wrap,IntKind.bits,IntKind.signed]
 omega
end Rc
theorem DA{B:Nat}{w w1 w2:World}{v:Value}{n:Nat}{xs:List Value}{o:Obj}(hB:B≤w1.heap.size)(au:w1.ownsRow B 5 1 v n xs)(aV:Below B w w1)(ho:Lib.OthersKept 5 none w w1)(bx:(w1.alloc o).grownBy w2 v.ownBlock):Below B w w2∧Lib.OthersKept 5 none w w2:=
 ⟨(aV.alloc hB o).grown bx (by simp;omega) (fun k hk=>(au.lt k hk).1),(ho.alloc o).grown bx (bK (au.alloc o))⟩
theorem nH(B:Nat)(w:World)(v:Value)(n:Nat)(xs:List Value)(k:Nat)(au:w.ownsRow B 5 1 v n xs)(hB:B≤w.heap.size)(hn:n≤100000000000)(hk:k≤1000000000000):
 Calls Tryz.prog 78 #[v,.int .i64 k] w fun e w'=>∃v' n',e=.returned v'∧w'.ownsRow B 5 1 v' n' (xs++Rc.bP (Rc.aZ k))∧Below B w w'∧Lib.OthersKept 5 none w w'∧Kb v.ownBlock.toList w w'∧cr w v v':=by
 obtain⟨i0,jS,ew,ev,dY⟩:=info_parts Tryz.ku
 have HI:Hid (Tryz.prog.info? 5=some i0):=jS
 have H0:Hid (i0.zero=some (.int .u8 0)):=ew
 have H1:Hid (i0.size=1):=ev
 have H2:Hid (i0.bytes=1):=dY
 clear jS ew ev dY
 obtain⟨vd,vc,Rp⟩:=aj au
 subst Rp
 have HR:Hid (xs++Rc.bP (Rc.aZ k)=xs++Rc.bP (Rc.aZ k)):=(rfl:xs++Rc.bP (Rc.aZ k)=_)
 go_enter Tryz.func78,Tryz.ntmps78
 go_wp2_with fail
 go_loopw [0,1] (fun a i wr=>∃(m l:Nat) (ys:List Value),i=.int .i64 m∧m≤k∧l+m≤n+k∧wr.ownsRow B 5 1 a l ys∧ys++Rc.bP (Rc.aZ m)=xs++Rc.bP (Rc.aZ k)∧Below B w wr∧B≤wr.heap.size∧Lib.OthersKept 5 none w wr∧Kb (Value.slice vd n vc).ownBlock.toList w wr∧cr w (.slice vd n vc) a) (fun _ i _=>(intOf i).toNat)
 case atStart=>exact⟨k,n,xs,rfl,Nat.le_refl _,Nat.le_refl _,au,rfl,Below.refl _ _,hB,Lib.OthersKept.refl _ _ _,Kb.refl _ _,cr.refl _ _⟩
 case round=>
  obtain⟨m,l,ys,rfl,hm,hl,bF,hys,aV,Y5,tw,Xn,WA⟩:=hrel
  obtain⟨ad,ac,Lt⟩:=aj bF
  subst Lt
  have HYS:Hid (ys++Rc.bP (Rc.aZ m)=xs++Rc.bP (Rc.aZ k)):=hys
  have HB:Hid (Below B w wr):=aV
  have HO:Hid (Lib.OthersKept 5 none w wr):=tw
  have GG:Hid (wr.ownsRow B 5 1 (.slice ad l ac) l ys):=bF
  have Wg:Hid (Kb (Value.slice vd n vc).ownBlock.toList w wr∧cr w (.slice vd n vc) (.slice ad l ac)):=⟨Xn,WA⟩
  clear hys aV tw HR au Xn WA
  by_cases XJ:m≤127
  · go_wp2_with (at_builtin;go_must (refine wpList_append_lies _ rfl (.tmp 16) (.tmp 19) 63 rfl B 5 i0 _ 1 1 Tryz.underlying63 HI.out H0.out H1.out H2.out rfl (by decide) _ _ _ rfl (bF.alloc _) ⟨wr.heap.size,0,none⟩ 1 1 [.int .u8 (m:Int)] rfl rfl (World.news_of_block (heap_alloc_new _ _)) (by simp[Value.oneCell']) (by decide) (by unfold maxLen;omega) (by omega) (by simp;omega) (wr.heap.size+1) (by simp) ?_;intro x2 kX w2 aP cg Mh _;obtain⟨cw,yf⟩:=DA Y5 GG.out HB.out HO.out cg;obtain⟨mA,Jn⟩:=Hc (n:=l+1) (cap:=kX) Wg.out.1 Wg.out.2 cg Mh))
    go_ret
    refine⟨_,l+1,rfl, ?_,cw,yf,mA,Jn⟩
    rw[←HYS.out,Rc.qI XJ]
    have e:(UInt8.ofNat m).toNat=m:=by simp;omega
    simpa [Rc.bP,e]using aP
  · have eX:Hid (ys++[.int .u8 ((m%128+128:Nat):Int)]++Rc.bP (Rc.aZ (m/128))=xs++Rc.bP (Rc.aZ k)):=by
     have h1:=HYS.out
     rw[Rc.xP XJ]at h1
     have e:(UInt8.ofNat (m%128+128)).toNat=m%128+128:=by simp;omega
     have h2:Rc.bP (UInt8.ofNat (m%128+128)::Rc.aZ (m/128))=.int .u8 ((m%128+128:Nat):Int)::Rc.bP (Rc.aZ (m/128)):=by
      simp only[Rc.bP,List.map_cons,e]
     rw[h2]at h1
     have h3:ys++[Value.int .u8 ((m%128+128:Nat):Int)]++Rc.bP (Rc.aZ (m/128))=xs++Rc.bP (Rc.aZ k):=by
      rw[←h1];simp
     exact h3
    have ha:bits BinOp.and IntKind.i64 (m:Int) 127=((m%128:Nat):Int):=Rc.S8 m (by omega)
    have QZ:Hid (bits BinOp.or IntKind.u8 ((m:Int)%128) 128=((m%128+128:Nat):Int)):=by
     have h1:=Rc.YU ⟨m%128,by omega⟩
     have h2:bits BinOp.or IntKind.u8 ((m:Int)%128) 128=((m%128+128:Nat):Int):=by
      rw[←h1];simp
     exact h2
    go_wp2_with (at_builtin;go_must (refine wpList_append_lies _ rfl (.tmp 9) (.tmp 14) 63 rfl B 5 i0 _ 1 1 Tryz.underlying63 HI.out H0.out H1.out H2.out rfl (by decide) _ _ _ rfl (bF.alloc _) ⟨wr.heap.size,0,none⟩ 1 1 [.int .u8 (bits BinOp.or IntKind.u8 ((m:Int)%128) 128)] rfl rfl (World.news_of_block (heap_alloc_new _ _)) (by simp[Value.oneCell']) (by decide) (by unfold maxLen;omega) (by omega) (by simp;omega) (wr.heap.size+1) (by simp) ?_;intro x2 kX w2 aP cg Mh _;obtain⟨cw,yf⟩:=DA Y5 GG.out HB.out HO.out cg;obtain⟨mA,Jn⟩:=Hc (n:=l+1) (cap:=kX) Wg.out.1 Wg.out.2 cg Mh;have yH:=cg.size))
    rw[QZ.out]at aP
    go_roundw
    case rel=>
     refine⟨m/128,l+1,_,by go_num,by omega,by omega,aP,eX.out,cw, ?_,yf,mA,Jn⟩
     simp at yH;omega
    case measure=>simp[intOf];omega
theorem dP(B:Nat)(w:World)(v:Value)(n:Nat)(xs:List Value)(k:Nat)(au:w.ownsRow B 5 1 v n xs)(hB:B≤w.heap.size)(hn:n≤100000000000)(hk:k≤1000000000000):
 Calls Tryz.prog 78 #[v,.int .i64 k] w fun e w'=>∃v' n',e=.returned v'∧w'.ownsRow B 5 1 v' n' (xs++Rc.bP (Rc.aZ k))∧Below B w w'∧Lib.OthersKept 5 none w w':=
 (nH B w v n xs k au hB hn hk).mono (fun _ _ ⟨v',n',h1,h2,h3,h4,_⟩=>⟨v',n',h1,h2,h3,h4⟩)
theorem pU(B:Nat)(w:World)(v:Value)(n:Nat)(xs:List Value)(t:ByteArray)(au:w.ownsRow B 5 1 v n xs)(hB:B≤w.heap.size)(hn:n≤100000000000)(hk:t.size≤1000000000):
 Calls Tryz.prog 77 #[v,.string t] w fun e w'=>∃v' n',e=.returned v'∧w'.ownsRow B 5 1 v' n' (xs++Rc.bP (Rc.aS t))∧Below B w w'∧Lib.OthersKept 5 none w w'∧Kb v.ownBlock.toList w w'∧cr w v v':=by
 have Qb:=nH B w v n xs t.size au hB hn (by omega)
 obtain⟨vd,vc,Rp⟩:=aj au
 subst Rp
 have hpw:(128:Nat)^10=1180591620717411303424:=by decide
 have Hy:(Rc.aZ t.size).length≤10:=Rc.oL 10 t.size (by omega) (by decide)
 clear hpw
 have oP:xs.length=n:=by have:=au.1;omega
 clear au
 go_enter Tryz.func77,Tryz.ntmps77
 go_wp2_with (first | (go_at_call 78;refine Qb.mono ?_;rintro e w1 ⟨v1,n1,rfl,bH,bq,Ph,nV,OJ⟩;have LN:=bH.1;rw[List.length_append,Rc.bN]at LN;have UF:B≤w1.heap.size:=Nat.le_trans hB bq.size) | (at_builtin;obtain⟨i0,hi,ew,ev,dY⟩:=info_parts Tryz.ku;refine nZ _ rfl _ _ 63 9 rfl B 5 i0 Tryz.underlying63 Tryz.underlying9 hi ew ev dY _ _ _ rfl bH t rfl (by unfold maxLen;omega) (by omega) UF ?_;intro v2 w2 aP cg abn))
 have eE:w1.grownBy w2 v1.ownBlock:=cg
 have cw:Below B w w2:=bq.grown eE UF (fun k hk=>(bH.lt k hk).1)
 have yf:Lib.OthersKept 5 none w w2:=Ph.grown eE (bK bH)
 go_ret
 obtain⟨mA,Jn⟩:=Ii nV OJ eE abn
 refine⟨v2,n1+t.size,rfl, ?_,cw,yf,mA,Jn⟩
 have e:xs++Rc.bP (Rc.aS t)=xs++Rc.bP (Rc.aZ t.size)++Lib.strCells t:=by
  unfold Rc.aS
  rw[Rc.gz,List.append_assoc]
  rfl
 rw[e]
 exact aP
theorem kC(B:Nat)(w:World)(v:Value)(n:Nat)(xs:List Value)(t:ByteArray)(au:w.ownsRow B 5 1 v n xs)(hB:B≤w.heap.size)(hn:n≤100000000000)(hk:t.size≤1000000000):
 Calls Tryz.prog 77 #[v,.string t] w fun e w'=>∃v' n',e=.returned v'∧w'.ownsRow B 5 1 v' n' (xs++Rc.bP (Rc.aS t))∧Below B w w'∧Lib.OthersKept 5 none w w':=
 (pU B w v n xs t au hB hn hk).mono (fun _ _ ⟨v',n',h1,h2,h3,h4,_⟩=>⟨v',n',h1,h2,h3,h4⟩)
end
end Go.Proofs.YtdmicblafmhflaaGreatDoor
