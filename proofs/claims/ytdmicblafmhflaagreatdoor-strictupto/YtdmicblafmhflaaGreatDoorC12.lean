/- Rows of bytes whose mark lies behind them. No program here. -/
import Derived.Test.YtdmicblafmhflaaGreatDoorC11
import Derived.Lib.ConvBytes
import Derived.Deep.AppendLies
import Derived.Deep.RegionLaw
import Derived.Lib.AppendStr
set_option linter.unusedSimpArgs false
set_option linter.unusedVariables false
set_option maxHeartbeats 1000000
set_option maxRecDepth 100000
namespace Go.Proofs.YtdmicblafmhflaaGreatDoor
section
open Go.RowKit
def T8(fz:Nat×Nat)(n:Nat):Prop:=fz=(0,0)∨n≤fz.1
theorem Dm{w:World}{g:Nat}{cur:Array Value}{t:TypeId}{fz:Nat×Nat}(hg:w.heap[g]?=some (.cells cur t fz))(hz:T8 fz cur.size){j:Nat}(hj:j<cur.size):w.frozen? ⟨g,j,none⟩=false:=by
 rcases hz with rfl | h
 · simp[World.frozen?,hg]
 · simp[World.frozen?,hg]
   omega
theorem jV(P:Program)(g o:Nat)(t:TypeId)(fz:Nat×Nat):∀(vs:List Value) (i:Nat) (cur:Array Value) (w:World),w.heap[g]?=some (.cells cur t fz)→T8 fz cur.size→o+i+vs.length≤cur.size→(∀v∈vs,v.oneCell'=true)→
 (storeCells ⟨g,o,none⟩ vs i).run P w=.ok () (w.setRow g (cur.toList.take (o+i)++vs++cur.toList.drop (o+i+vs.length)).toArray)
 | [],i,cur,w,hg,_,_,_=>by
  simp only[storeCells,List.append_nil,List.length_nil,Nat.add_zero,List.take_append_drop,Array.toArray_toList]
  rw[setRow_self w g cur t fz hg]
  rfl
 | v::rest,i,cur,w,hg,hz,hl,h1=>by
  have hi:o+i<cur.size:=by simp at hl;omega
  have dR:(⟨g,o,none⟩:Addr).add i=⟨g,o+i,none⟩:=by unfold Addr.add;split<;>simp_all
  have kR:w.cell? ⟨g,o+i,none⟩=some cur[o+i]:=by simp[World.cell?,hg,hi]
  have ad5:w.frozen? ⟨g,o+i,none⟩=false:=Dm hg hz hi
  have eo:(store ((⟨g,o,none⟩:Addr).add i) v).run P w=.ok () (w.setRow g (cur.setIfInBounds (o+i) v)):=by
   rw[dR,run_store P w _ v _ (h1 v (by simp)),kR]
   simp[ad5,setCell_eq_setRow w g (o+i) cur t fz v hg]
  have ih:=jV P g o t fz rest (i+1) (cur.setIfInBounds (o+i) v) (w.setRow g (cur.setIfInBounds (o+i) v)) (setRow_heap w g cur _ t _ hg) (by simpa using hz) (by simp at hl ⊢;omega) (fun x hx=>h1 x (by simp[hx]))
  simp only[storeCells,Sem.run_bind,eo,Result.andThen_ok,ih,setRow_setRow]
  congr 3
  have e:=list_seg_step cur.toList (o+i) v rest (by simp at hl ⊢;omega)
  simpa [Array.toList_setIfInBounds,Nat.add_assoc]using e
def lU(w:World)(base:Nat)(e:TypeId)(v:Value)(n:Nat)(xs:List Value):Prop:=
 xs.length=n∧∃g cap cur fz,v=.slice (some ⟨g,0,none⟩) n cap∧base≤g∧w.heap[g]?=some (.cells cur e fz)∧T8 fz cur.size∧n≤cap∧cap≤maxLen∧cur.size=cap∧cur.toList.take n=xs
theorem lU.lt{w:World}{base:Nat}{e:TypeId}{v:Value}{n:Nat}{xs:List Value}(h:lU w base e v n xs):∃g cap,v=.slice (some ⟨g,0,none⟩) n cap∧base≤g∧g<w.heap.size∧n≤cap∧∀j u,xs[j]?=some u→w.cell? ⟨g,j,none⟩=some u:=by
 obtain⟨h1,g,cap,cur,fz,rfl,hb,hg,hz,hn,hm,hs,ht⟩:=h
 refine⟨g,cap,rfl,hb,(Array.getElem?_eq_some_iff.1 hg).1,hn,fun j u hj=> ?_⟩
 rw[cell_of_row w g j cur e fz hg]
 rw[←ht,List.getElem?_take]at hj
 split at hj
 · simpa using hj
 · cases hj
theorem lU.alloc{w:World}{base:Nat}{e:TypeId}{v:Value}{n:Nat}{xs:List Value}(h:lU w base e v n xs)(o:Obj):lU (w.alloc o) base e v n xs:=by
 obtain⟨h1,g,cap,cur,fz,rfl,hb,hg,rest⟩:=h
 exact⟨h1,g,cap,cur,fz,rfl,hb,by rw[Below.heap_alloc _ _ _ (Array.getElem?_eq_some_iff.1 hg).1];exact hg,rest⟩
theorem lU.kept{w w':World}{S:List Nat}{base:Nat}{e:TypeId}{v:Value}{n:Nat}{xs:List Value}(h:lU w base e v n xs)(hk:Kb S w w')(hS:∀b,v.ownBlock=some b→¬b∈S):lU w' base e v n xs:=by
 obtain⟨h1,g,cap,cur,fz,rfl,hb,hg,rest⟩:=h
 exact⟨h1,g,cap,cur,fz,rfl,hb,hk.heap hg (hS g rfl),rest⟩
theorem vx{P:Program}(w:World)(base:Nat)(t ty e:TypeId)(i:TypeInfo)(z:Value)(bytes:Nat)(ht:P.underlying t=some (.slice e))(hi:P.info? e=some i)(hz:i.zero=some z)(gN:i.size=1)(FM:i.bytes=bytes)(ue:z.cells.size=1)
 (v:Value)(n:Nat)(xs:List Value)(aj:lU w base e v n xs)(a:Addr)(m c:Nat)(news:List Value)(hl:news.length=m)(ew:∀j u,news[j]?=some u→w.cell? (a.add j)=some u)(h1:∀u∈news,u.oneCell'=true)
 (FF:n+m≤maxLen)(ib:(n+m)*bytes≤140737488355328)(jy:base≤w.heap.size):
 ∃v' w',(Builtin.append_ #[t,t] ty #[v,.slice (some a) m c]).run P w=.ok v' w'∧lU w' base e v' (n+m) (xs++news)∧w.grownBy w' v.ownBlock:=by
 subst FM
 have VD:n+m≤9223372036854775807:=by simp only[maxLen]at FF;omega
 have hlen:(xs++news).length=n+m:=by rw[List.length_append,aj.1,hl]
 obtain⟨_,g,cap,cur,fz,rfl,Oc,hg,SD,VU,Ca,bA,IY⟩:=aj
 have qb:xs.length=n:=by rw[←IY,List.length_take];simp;omega
 by_cases lh:n+m≤cap
 · have hf:=run_firstCells_some (P:=P) w i.size m a m c news (by rw[gN,hl];omega) ew
   have eo:=jV P g n e fz news 0 cur w hg SD (by simp;omega) h1
   simp only[Nat.add_zero]at eo
   refine⟨.slice (some ⟨g,0,none⟩) (n+m) cap,w.setRow g (cur.toList.take n++news++cur.toList.drop (n+news.length)).toArray, ?_,⟨hlen,g,cap,(cur.toList.take n++news++cur.toList.drop (n+news.length)).toArray,fz,rfl,Oc,setRow_heap w g cur _ e _ hg, ?_,lh,Ca, ?_, ?_⟩,⟨rfl,rfl,rfl,by simp,fun k _ hk=>setRow_other w g k _ (fun e=>hk (by simp[Value.ownBlock,e]))⟩⟩
   · rw[gN]at hf
     simp[Builtin.append_,run_underlying ht,sizeOf,typeInfo,hi,Builtin.lenOf,lh,hf,Addr.add_lit,eo,gN]
   · have:(cur.toList.take n++news++cur.toList.drop (n+news.length)).toArray.size=cur.size:=by
      simp only[List.size_toArray,List.length_append,List.length_take,List.length_drop,Array.length_toList]
      omega
     rw[this]
     exact SD
   · simp only[List.size_toArray,List.length_append,List.length_take,List.length_drop,Array.length_toList]
     omega
   · rw[IY,←hlen]
     exact List.take_left
 · have holds:∀j u,xs[j]?=some u→w.cell? ((⟨g,0,none⟩:Addr).add j)=some u:=by
    intro j u hj
    have dR:(⟨g,0,none⟩:Addr).add j=⟨g,j,none⟩:=by unfold Addr.add;split<;>simp_all
    rw[dR,cell_of_row w g j cur e fz hg]
    rw[←IY,List.getElem?_take]at hj
    split at hj
    · simpa using hj
    · cases hj
   have hr:=run_append_grow (P:=P) w t ty e i z ht hi hz ⟨g,0,none⟩ n cap xs (by rw[gN,qb];omega) holds a m c news (by rw[gN,hl];omega) ew (by omega) (by omega) (growslice_fits (by omega) ib)
   have BO:=grownCap_ge w (n+m) cap e
   have abW:grownCap w (n+m) cap e≤maxLen:=grownCap_le_maxLen w (n+m) cap e FF
   refine⟨_,_,hr,⟨hlen,w.heap.size,_,_,(0,0),rfl,jy,heap_alloc_new w.drew _,.inl rfl,BO,abW, ?_, ?_⟩,⟨rfl,rfl,rfl,by simp,fun k hk _=>heap_alloc_old w.drew _ hk⟩⟩
   · simp only[Array.size_append,List.size_toArray,size_zeroCells,ue,qb,hl]
     omega
   · simp only[Array.toList_append,List.append_assoc]
     rw[←List.append_assoc,←hlen]
     exact List.take_left
theorem gJ{P:Program}(w:World){ops:Array Oper}{rest:List Oper}{o:Oper}{a:Act}{Q:Exit→Act→World→Prop}(zU:o.guard=none)(s x:Operand)(t:TypeId)
 (ho:o.op=.call {callee:=.builtin .append,args:=#[s,x],argTypes:=#[t,t]})
 (base:Nat)(e:TypeId)(i:TypeInfo)(z:Value)(bytes:Nat)(ht:P.underlying t=some (.slice e))(hi:P.info? e=some i)(hz:i.zero=some z)(gN:i.size=1)(FM:i.bytes=bytes)(ue:z.cells.size=1)
 (v:Value)(n:Nat)(xs:List Value)(hs:a.eval s=v)(aj:lU w base e v n xs)
 (ad:Addr)(m c:Nat)(news:List Value)(hx:a.eval x=.slice (some ad) m c)(hl:news.length=m)(ew:∀j u,news[j]?=some u→w.cell? (ad.add j)=some u)(h1:∀u∈news,u.oneCell'=true)
 (FF:n+m≤maxLen)(ib:(n+m)*bytes≤140737488355328)(jy:base≤w.heap.size)
 (h:∀v' w',lU w' base e v' (n+m) (xs++news)→w.grownBy w' v.ownBlock→wpList P ops Q rest (a.put o.dst v') w'):wpList P ops Q (o::rest) a w:=by
 refine wpList_plain zU fun _ hK=> ?_
 obtain⟨v',w',hr,h2,h3⟩:=vx (P:=P) w base t o.type e i z bytes ht hi hz gN FM ue v n xs aj ad m c news hl ew h1 FF ib jy
 unfold Oper.wp execOp
 simp only[ho,resolve,invoke,builtin,Sem.run_bind,Sem.run_pure,Result.andThen_ok,List.map_toArray,List.map_cons,List.map_nil,hs,hx,hr]
 exact hK _ _ (h v' w' h2 h3)
def byteCells(s:ByteArray):List Value:=s.data.toList.map fun b=>.int .u8 (b.toNat:Int)
end
/- append, and what becomes of the row that was there: its cells stay. A law of no program. -/
section
open Go.RowKit
section
variable {P : Program} (w : World)
theorem vr(t ty:TypeId)(base:Nat)(e:TypeId)(i:TypeInfo)(z:Value)(size bytes:Nat)(ht:P.underlying t=some (.slice e))(hi:P.info? e=some i)(hz:i.zero=some z)
 (gN:i.size=size)(FM:i.bytes=bytes)(ue:z.cells.size=size)(cr:0<size)
 (v:Value)(n:Nat)(xs:List Value)(aj:w.ownsRow base e size v n xs)
 (ad:Addr)(m c:Nat)(news:List Value)(hl:news.length=m*size)(ew:∀j u,news[j]?=some u→w.cell? (ad.add j)=some u)(h1:∀u∈news,u.oneCell'=true)
 (hm:0<m)(FF:n+m≤maxLen)(ib:(n+m)*bytes≤140737488355328)(jy:base≤w.heap.size):
 ∃g cap w',(Builtin.append_ #[t,t] ty #[v,.slice (some ad) m c]).run P w=.ok (.slice (some ⟨g,0,none⟩) (n+m) cap) w'∧
  w'.ownsRow base e size (.slice (some ⟨g,0,none⟩) (n+m) cap) (n+m) (xs++news)∧w.grownBy w' v.ownBlock∧cn w v (.slice (some ⟨g,0,none⟩) (n+m) cap)∧(∀(b:Nat),v.ownBlock=some b→(∃cur,w'.heap[b]?=some (.cells cur e (0,0)))∧∀j,j<n*size→w'.cell? ⟨b,j,none⟩=w.cell? ⟨b,j,none⟩):=by
 obtain⟨g,cap,w',hr,h2,h3,h4,h5⟩:=run_append_lies (P:=P) w t ty base e i z size bytes ht hi hz gN FM ue cr v n xs aj ad m c news hl ew h1 hm FF ib jy w.heap.size rfl
 refine⟨g,cap,w',hr,h2,h3, ?_, ?_⟩
 · intro b hb
   simp only[Value.ownBlock,Option.some.injEq]at hb
   subst hb
   rcases h4 with h | h
   · exact .inl h
   · exact .inr (by omega)
 · intro b hb
   subst gN
   subst FM
   rcases aj.2 with⟨rfl,_⟩ | ⟨g',G1,cur,rfl,_,hg,VU,Ca,bA,sO⟩
   · cases hb
   · simp only[Value.ownBlock,Option.some.injEq]at hb
     subst hb
     have aC:g'<w.heap.size:=(Array.getElem?_eq_some_iff.1 hg).1
     by_cases lh:n+m≤G1
     · have jF:n*i.size+news.length≤cur.size:=by rw[hl,bA,←Nat.add_mul];exact Nat.mul_le_mul_right _ lh
       have Bw:=run_append_room (P:=P) w t ty e i ht hi g' n G1 cur hg ad m c news hl ew h1 lh jF
       rw[Bw]at hr
       simp only[Result.ok.injEq]at hr
       rw[←hr.2]
       refine⟨⟨_,bq w g' _ hg⟩,fun j hj=> ?_⟩
       have hjc:j<cur.size:=by rw[bA];exact Nat.lt_of_lt_of_le hj (Nat.mul_le_mul_right _ VU)
       rw[cell_of_row _ g' j _ _ _ (bq w g' _ hg),cell_of_row _ g' j _ _ _ hg]
       simp only[List.getElem?_toArray]
       rw[List.append_assoc,List.getElem?_append_left (by rw[List.length_take,Array.length_toList];omega),List.getElem?_take,if_pos hj]
       simp
     · have holds:∀j u,xs[j]?=some u→w.cell? ((⟨g',0,none⟩:Addr).add j)=some u:=aj.cells (g:=g') rfl
       have xE:n+m≤9223372036854775807:=by unfold maxLen at FF;omega
       have Bw:=run_append_grow (P:=P) w t ty e i z ht hi hz ⟨g',0,none⟩ n G1 xs aj.1 holds ad m c news hl ew (by omega) (by omega) (growslice_fits (by omega) ib)
       rw[Bw]at hr
       simp only[Result.ok.injEq]at hr
       rw[←hr.2]
       refine⟨⟨cur, ?_⟩,fun j _=>World.cell?_of_block (Below.heap_alloc w.drew _ _ aC)⟩
       rw[Below.heap_alloc w.drew _ _ aC]
       exact hg
theorem xi{o:Oper}{a:Act}{K:Act→World→Prop}{Q:Exit→Act→World→Prop}(s x:Operand)(t:TypeId)
 (ho:o.op=.call {callee:=.builtin .append,args:=#[s,x],argTypes:=#[t,t]})
 (base:Nat)(e:TypeId)(i:TypeInfo)(z:Value)(size bytes:Nat)(ht:P.underlying t=some (.slice e))(hi:P.info? e=some i)(hz:i.zero=some z)
 (gN:i.size=size)(FM:i.bytes=bytes)(ue:z.cells.size=size)(cr:0<size)
 (v:Value)(n:Nat)(xs:List Value)(hs:a.eval s=v)(aj:w.ownsRow base e size v n xs)
 (ad:Addr)(m c:Nat)(news:List Value)(hx:a.eval x=.slice (some ad) m c)(hl:news.length=m*size)(ew:∀j u,news[j]?=some u→w.cell? (ad.add j)=some u)(h1:∀u∈news,u.oneCell'=true)
 (hm:0<m)(FF:n+m≤maxLen)(ib:(n+m)*bytes≤140737488355328)(jy:base≤w.heap.size)
 (h:∀g cap w',w'.ownsRow base e size (.slice (some ⟨g,0,none⟩) (n+m) cap) (n+m) (xs++news)→w.grownBy w' v.ownBlock→cn w v (.slice (some ⟨g,0,none⟩) (n+m) cap)→(∀(b:Nat),v.ownBlock=some b→(∃cur,w'.heap[b]?=some (.cells cur e (0,0)))∧∀j,j<n*size→w'.cell? ⟨b,j,none⟩=w.cell? ⟨b,j,none⟩)→K (a.put o.dst (.slice (some ⟨g,0,none⟩) (n+m) cap)) w'):o.wp P a w K Q:=by
 obtain⟨g,cap,w',hr,h2,h3,h4,h5⟩:=vr (P:=P) w t o.type base e i z size bytes ht hi hz gN FM ue cr v n xs aj ad m c news hl ew h1 hm FF ib jy
 unfold Oper.wp execOp
 simp only[ho,resolve,invoke,builtin,Sem.run_bind,Sem.run_pure,Result.andThen_ok,List.map_toArray,List.map_cons,List.map_nil,hs,hx,hr]
 exact h g cap w' h2 h3 h4 h5
theorem tL{ops:Array Oper}{o:Oper}{a:Act}{K:Act→World→Prop}{Q:Exit→Act→World→Prop}{E:Prop}(zU:o.guard=none)(s x:Operand)(t:TypeId)
 (ho:o.op=.call {callee:=.builtin .append,args:=#[s,x],argTypes:=#[t,t]})
 (base:Nat)(e:TypeId)(i:TypeInfo)(z:Value)(size bytes:Nat)(ht:P.underlying t=some (.slice e))(hi:P.info? e=some i)(hz:i.zero=some z)
 (gN:i.size=size)(FM:i.bytes=bytes)(ue:z.cells.size=size)(cr:0<size)
 (v:Value)(n:Nat)(xs:List Value)(hs:a.eval s=v)(aj:w.ownsRow base e size v n xs)
 (ad:Addr)(m c:Nat)(news:List Value)(hx:a.eval x=.slice (some ad) m c)(hl:news.length=m*size)(ew:∀j u,news[j]?=some u→w.cell? (ad.add j)=some u)(h1:∀u∈news,u.oneCell'=true)
 (hm:0<m)(FF:n+m≤maxLen)(ib:(n+m)*bytes≤140737488355328)(jy:base≤w.heap.size)
 (h:∀g cap w',w'.ownsRow base e size (.slice (some ⟨g,0,none⟩) (n+m) cap) (n+m) (xs++news)→w.grownBy w' v.ownBlock→cn w v (.slice (some ⟨g,0,none⟩) (n+m) cap)→(∀(b:Nat),v.ownBlock=some b→(∃cur,w'.heap[b]?=some (.cells cur e (0,0)))∧∀j,j<n*size→w'.cell? ⟨b,j,none⟩=w.cell? ⟨b,j,none⟩)→K (a.put o.dst (.slice (some ⟨g,0,none⟩) (n+m) cap)) w'):
 if Region.wanted o (yielded ops a.tmps)=true then Oper.wp P o a w K Q else E:=by
 have hw:Region.wanted o (yielded ops a.tmps)=true:=by simp[Region.wanted,zU]
 rw[if_pos hw]
 exact xi w s x t ho base e i z size bytes ht hi hz gN FM ue cr v n xs hs aj ad m c news hx hl ew h1 hm FF ib jy h
end
end
/- append, and where the new row lies; a string's bytes behind a row. Laws of no program. -/
section
open Go.RowKit
theorem I9{w wr w2:World}{v a:Value}{o:Obj}{g n cap:Nat}(hk:Kb v.ownBlock.toList w wr)(hf:cn w v a)(bx:(wr.alloc o).grownBy w2 a.ownBlock)(sJ:a.ownBlock=some g∨g=wr.heap.size+1):Kb v.ownBlock.toList w w2∧cn w v (.slice (some ⟨g,0,none⟩) n cap):=by
 have hs:=hk.size
 refine⟨(hk.alloc o).trans' (Kb.dK bx) (fun i hi aC=> ?_),fun b hb=> ?_⟩
 · rw[Option.mem_toList]at hi ⊢
   rcases hf i hi with h | h
   · exact h
   · omega
 · simp only[Value.ownBlock,Option.some.injEq]at hb
   subst hb
   rcases sJ with h | h
   · exact hf _ h
   · exact .inr (by omega)
theorem Iy{w wr w2:World}{v a v2:Value}(hk:Kb v.ownBlock.toList w wr)(hf:cn w v a)(bx:wr.grownBy w2 a.ownBlock)(h2:cn wr a v2):Kb v.ownBlock.toList w w2∧cn w v v2:=by
 have hs:=hk.size
 refine⟨hk.trans' (Kb.dK bx) (fun i hi aC=> ?_),fun b hb=> ?_⟩
 · rw[Option.mem_toList]at hi ⊢
   rcases hf i hi with h | h
   · exact h
   · omega
 · rcases h2 b hb with h | h
   · exact hf _ h
   · exact .inr (by omega)
section
variable {P : Program} (w : World)
theorem sX(base:Nat)(t u ty e:TypeId)(i:TypeInfo)(ht:P.underlying t=some (.slice e))(hu:P.underlying u=some .string)(hi:P.info? e=some i)(hz:i.zero=some (.int .u8 0))
 (gN:i.size=1)(FM:i.bytes=1)(v:Value)(n:Nat)(xs:List Value)(aj:w.ownsRow base e 1 v n xs)(s:ByteArray)
 (FF:n+s.size≤maxLen)(ib:n+s.size≤140737488355328){v':Value}{w':World}(hr:(Builtin.append_ #[t,u] ty #[v,.string s]).run P w=.ok v' w')(Ig:v'=.slice none 0 0↔v=.slice none 0 0∧s.size=0):cn w v v':=by
 have VD:n+s.size≤9223372036854775807:=by simp only[maxLen]at FF;omega
 have qb:xs.length=n:=by simpa using aj.1
 intro b hb
 have bV:=aj.2
 rcases bV with⟨rfl,rfl⟩ | ⟨g,cap,cur,rfl,Oc,hg,VU,Ca,bA,IY⟩
 · by_cases hm:s.size=0
   · rw[Ig.2 ⟨rfl,hm⟩]at hb
     cases hb
   · have P5:=run_append_nil_string (P:=P) w t u ty e i (.int .u8 0) ht hu hi hz s (by omega) (by omega) (by rw[FM];omega)
     rw[P5]at hr
     simp only[Result.ok.injEq]at hr
     rw[←hr.1]at hb
     simp only[Value.ownBlock,Option.some.injEq]at hb
     exact .inr (by omega)
 · by_cases lh:n+s.size≤cap
   · have ajt:cur.size=cap:=by simpa using bA
     have P5:=Lib.run_append_room_string (P:=P) w t u ty e i ht hu hi gN g n cap cur hg s lh (by omega)
     rw[P5]at hr
     simp only[Result.ok.injEq]at hr
     rw[←hr.1]at hb
     simp only[Value.ownBlock,Option.some.injEq]at hb
     subst hb
     exact .inl rfl
   · have holds:∀j u,xs[j]?=some u→w.cell? ((⟨g,0,none⟩:Addr).add j)=some u:=aj.cells (g:=g) rfl
     have P5:=Lib.run_append_grow_string (P:=P) w t u ty e i (.int .u8 0) ht hu hi hz ⟨g,0,none⟩ n cap xs (by rw[gN];simpa using qb) holds s (by omega) (by omega) (by rw[FM];exact growslice_fits (by omega) (by omega))
     rw[P5]at hr
     simp only[Result.ok.injEq]at hr
     rw[←hr.1]at hb
     simp only[Value.ownBlock,Option.some.injEq]at hb
     exact .inr (by omega)
theorem o6{ops:Array Oper}{rest:List Oper}{o:Oper}{a:Act}{Q:Exit→Act→World→Prop}(zU:o.guard=none)(sl x:Operand)(t u:TypeId)
 (ho:o.op=.call {callee:=.builtin .append,args:=#[sl,x],argTypes:=#[t,u]})
 (base:Nat)(e:TypeId)(i:TypeInfo)(ht:P.underlying t=some (.slice e))(hu:P.underlying u=some .string)(hi:P.info? e=some i)(hz:i.zero=some (.int .u8 0))
 (gN:i.size=1)(FM:i.bytes=1)
 (v:Value)(n:Nat)(xs:List Value)(hs:a.eval sl=v)(aj:w.ownsRow base e 1 v n xs)(s:ByteArray)(hx:a.eval x=.string s)
 (FF:n+s.size≤maxLen)(ib:n+s.size≤140737488355328)(jy:base≤w.heap.size)
 (h:∀v' w',w'.ownsRow base e 1 v' (n+s.size) (xs++Lib.strCells s)→w.grownBy w' v.ownBlock→cn w v v'→wpList P ops Q rest (a.put o.dst v') w'):wpList P ops Q (o::rest) a w:=by
 refine wpList_plain zU fun K hK=> ?_
 obtain⟨v',w',hr,h2,h3,h4⟩:=Lib.run_append_own_string (P:=P) w base t u o.type e i ht hu hi hz gN FM v n xs aj s FF ib jy
 have h5:=sX w base t u o.type e i ht hu hi hz gN FM v n xs aj s FF ib hr h4
 unfold Oper.wp execOp
 simp only[ho,resolve,invoke,builtin,Sem.run_bind,Sem.run_pure,Result.andThen_ok,List.map_toArray,List.map_cons,List.map_nil,hs,hx,hr]
 exact hK _ _ (h v' w' h2 h3 h5)
end
end
/- Package encode: numbers and texts as bytes. -/
section
open Go.RowKit
namespace Rc
def aV(n:Nat):List UInt8:=if n≤127 then [UInt8.ofNat n]else UInt8.ofNat (n%128+128)::aV (n/128)
def bB(l:List UInt8):List Value:=l.map fun b=>.int .u8 (b.toNat:Int)
theorem gq(a b:List UInt8):bB (a++b)=bB a++bB b:=by simp[bB]
theorem bC(l:List UInt8):(bB l).length=l.length:=by simp[bB]
theorem qR(l:List UInt8):∀u∈bB l,u.oneCell'=true:=by
 intro u hu
 obtain⟨b,_,rfl⟩:=List.mem_map.1 hu
 rfl
theorem qj{n:Nat}(h:n≤127):aV n=[UInt8.ofNat n]:=by rw[aV,if_pos h]
theorem yu{n:Nat}(h:¬n≤127):aV n=UInt8.ofNat (n%128+128)::aV (n/128):=by rw[aV,if_neg h]
theorem mC:∀(k n:Nat),n<128^k→0<k→(aV n).length≤k
 | 0,n,_,h=>by omega
 | k+1,n,hn,_=>by
  by_cases h:n≤127
  · rw[qj h];simp
  · rw[yu h,List.length_cons]
    cases k with
    | zero=>simp at hn;omega
    | succ k=>
     have:=mC (k+1) (n/128) (by rw[Nat.pow_succ]at hn;exact Nat.div_lt_of_lt_mul (by rw[Nat.mul_comm];exact hn)) (by omega)
     omega
def aL(t:ByteArray):List UInt8:=aV t.size++t.data.toList
theorem YN:∀x:Fin 128,bits .or .u8 ((x.1:Nat):Int) 128=((x.1+128:Nat):Int):=by decide
theorem Vv(m:Nat)(h:m<4611686018427387904):bits .and .i64 (m:Int) 127=((m%128:Nat):Int):=by
 have e:(BitVec.ofInt 64 (m:Int)&&&BitVec.ofInt 64 127).toNat=m%128:=by
  rw[BitVec.toNat_and]
  have h1:(BitVec.ofInt 64 (m:Int)).toNat=m:=by
   rw[BitVec.ofInt_natCast,BitVec.toNat_ofNat]
   omega
  have h2:(BitVec.ofInt 64 127).toNat=2^7-1:=by decide
  rw[h1,h2,Nat.and_two_pow_sub_one_eq_mod]
 show IntKind.i64.wrap (((BitVec.ofInt 64 (m:Int)&&&BitVec.ofInt 64 127).toNat:Nat):Int)=_
 rw[e]
 simp[IntKind.wrap,IntKind.bits,IntKind.signed]
 omega
end Rc
theorem DD{B:Nat}{w w1 w2:World}{v:Value}{n:Nat}{xs:List Value}{o:Obj}(hB:B≤w1.heap.size)(aj:w1.ownsRow B 5 1 v n xs)(aR:Below B w w1)(ho:Lib.OthersKept 5 none w w1)(bx:(w1.alloc o).grownBy w2 v.ownBlock):Below B w w2∧Lib.OthersKept 5 none w w2:=
 ⟨(aR.alloc hB o).grown bx (by simp;omega) (fun k hk=>(aj.lt k hk).1),(ho.alloc o).grown bx (cu (aj.alloc o))⟩
theorem nY(B:Nat)(w:World)(v:Value)(n:Nat)(xs:List Value)(k:Nat)(aj:w.ownsRow B 5 1 v n xs)(hB:B≤w.heap.size)(hn:n≤100000000000)(hk:k≤1000000000000):
 Calls Tryz.prog 78 #[v,.int .i64 k] w fun e w'=>∃v' n',e=.returned v'∧w'.ownsRow B 5 1 v' n' (xs++Rc.bB (Rc.aV k))∧Below B w w'∧Lib.OthersKept 5 none w w'∧Kb v.ownBlock.toList w w'∧cn w v v':=by
 obtain⟨i0,kP,eX,eP,eA⟩:=info_parts Tryz.kX
 have HI:Hid (Tryz.prog.info? 5=some i0):=kP
 have H0:Hid (i0.zero=some (.int .u8 0)):=eX
 have H1:Hid (i0.size=1):=eP
 have H2:Hid (i0.bytes=1):=eA
 clear kP eX eP eA
 obtain⟨vd,vc,R7⟩:=ah aj
 subst R7
 have HR:Hid (xs++Rc.bB (Rc.aV k)=xs++Rc.bB (Rc.aV k)):=(rfl:xs++Rc.bB (Rc.aV k)=_)
 go_enter Tryz.func78,Tryz.ntmps78
 go_wp2_with fail
 go_loopw [0,1] (fun a i wr=>∃(m l:Nat) (ys:List Value),i=.int .i64 m∧m≤k∧l+m≤n+k∧wr.ownsRow B 5 1 a l ys∧ys++Rc.bB (Rc.aV m)=xs++Rc.bB (Rc.aV k)∧Below B w wr∧B≤wr.heap.size∧Lib.OthersKept 5 none w wr∧Kb (Value.slice vd n vc).ownBlock.toList w wr∧cn w (.slice vd n vc) a) (fun _ i _=>(intOf i).toNat)
 case atStart=>exact⟨k,n,xs,rfl,Nat.le_refl _,Nat.le_refl _,aj,rfl,Below.refl _ _,hB,Lib.OthersKept.refl _ _ _,Kb.refl _ _,cn.refl _ _⟩
 case round=>
  obtain⟨m,l,ys,rfl,hm,hl,bV,hys,aR,Yq,sQ,YR,ZG⟩:=hrel
  obtain⟨ad,ac,Jq⟩:=ah bV
  subst Jq
  have HYS:Hid (ys++Rc.bB (Rc.aV m)=xs++Rc.bB (Rc.aV k)):=hys
  have HB:Hid (Below B w wr):=aR
  have HO:Hid (Lib.OthersKept 5 none w wr):=sQ
  have FP:Hid (wr.ownsRow B 5 1 (.slice ad l ac) l ys):=bV
  have WH:Hid (Kb (Value.slice vd n vc).ownBlock.toList w wr∧cn w (.slice vd n vc) (.slice ad l ac)):=⟨YR,ZG⟩
  clear hys aR sQ HR aj YR ZG
  by_cases XU:m≤127
  · go_wp2_with (at_builtin;go_must (refine wpList_append_lies _ rfl (.tmp 16) (.tmp 19) 63 rfl B 5 i0 _ 1 1 Tryz.underlying63 HI.out H0.out H1.out H2.out rfl (by decide) _ _ _ rfl (bV.alloc _) ⟨wr.heap.size,0,none⟩ 1 1 [.int .u8 (m:Int)] rfl rfl (World.news_of_block (heap_alloc_new _ _)) (by simp[Value.oneCell']) (by decide) (by unfold maxLen;omega) (by omega) (by simp;omega) (wr.heap.size+1) (by simp) ?_;intro x2 mD w2 aO ch N9 _;obtain⟨cM,yW⟩:=DD Yq FP.out HB.out HO.out ch;obtain⟨ml,RY⟩:=I9 (n:=l+1) (cap:=mD) WH.out.1 WH.out.2 ch N9))
    go_ret
    refine⟨_,l+1,rfl, ?_,cM,yW,ml,RY⟩
    rw[←HYS.out,Rc.qj XU]
    have e:(UInt8.ofNat m).toNat=m:=by simp;omega
    simpa [Rc.bB,e]using aO
  · have gG:Hid (ys++[.int .u8 ((m%128+128:Nat):Int)]++Rc.bB (Rc.aV (m/128))=xs++Rc.bB (Rc.aV k)):=by
     have h1:=HYS.out
     rw[Rc.yu XU]at h1
     have e:(UInt8.ofNat (m%128+128)).toNat=m%128+128:=by simp;omega
     have h2:Rc.bB (UInt8.ofNat (m%128+128)::Rc.aV (m/128))=.int .u8 ((m%128+128:Nat):Int)::Rc.bB (Rc.aV (m/128)):=by
      simp only[Rc.bB,List.map_cons,e]
     rw[h2]at h1
     have h3:ys++[Value.int .u8 ((m%128+128:Nat):Int)]++Rc.bB (Rc.aV (m/128))=xs++Rc.bB (Rc.aV k):=by
      rw[←h1];simp
     exact h3
    have ha:bits BinOp.and IntKind.i64 (m:Int) 127=((m%128:Nat):Int):=Rc.Vv m (by omega)
    have QJ:Hid (bits BinOp.or IntKind.u8 ((m:Int)%128) 128=((m%128+128:Nat):Int)):=by
     have h1:=Rc.YN ⟨m%128,by omega⟩
     have h2:bits BinOp.or IntKind.u8 ((m:Int)%128) 128=((m%128+128:Nat):Int):=by
      rw[←h1];simp
     exact h2
    go_wp2_with (at_builtin;go_must (refine wpList_append_lies _ rfl (.tmp 9) (.tmp 14) 63 rfl B 5 i0 _ 1 1 Tryz.underlying63 HI.out H0.out H1.out H2.out rfl (by decide) _ _ _ rfl (bV.alloc _) ⟨wr.heap.size,0,none⟩ 1 1 [.int .u8 (bits BinOp.or IntKind.u8 ((m:Int)%128) 128)] rfl rfl (World.news_of_block (heap_alloc_new _ _)) (by simp[Value.oneCell']) (by decide) (by unfold maxLen;omega) (by omega) (by simp;omega) (wr.heap.size+1) (by simp) ?_;intro x2 mD w2 aO ch N9 _;obtain⟨cM,yW⟩:=DD Yq FP.out HB.out HO.out ch;obtain⟨ml,RY⟩:=I9 (n:=l+1) (cap:=mD) WH.out.1 WH.out.2 ch N9;have vI:=ch.size))
    rw[QJ.out]at aO
    go_roundw
    case rel=>
     refine⟨m/128,l+1,_,by go_num,by omega,by omega,aO,gG.out,cM, ?_,yW,ml,RY⟩
     simp at vI;omega
    case measure=>simp[intOf];omega
theorem dH(B:Nat)(w:World)(v:Value)(n:Nat)(xs:List Value)(k:Nat)(aj:w.ownsRow B 5 1 v n xs)(hB:B≤w.heap.size)(hn:n≤100000000000)(hk:k≤1000000000000):
 Calls Tryz.prog 78 #[v,.int .i64 k] w fun e w'=>∃v' n',e=.returned v'∧w'.ownsRow B 5 1 v' n' (xs++Rc.bB (Rc.aV k))∧Below B w w'∧Lib.OthersKept 5 none w w':=
 (nY B w v n xs k aj hB hn hk).mono (fun _ _ ⟨v',n',h1,h2,h3,h4,_⟩=>⟨v',n',h1,h2,h3,h4⟩)
theorem pY(B:Nat)(w:World)(v:Value)(n:Nat)(xs:List Value)(t:ByteArray)(aj:w.ownsRow B 5 1 v n xs)(hB:B≤w.heap.size)(hn:n≤100000000000)(hk:t.size≤1000000000):
 Calls Tryz.prog 77 #[v,.string t] w fun e w'=>∃v' n',e=.returned v'∧w'.ownsRow B 5 1 v' n' (xs++Rc.bB (Rc.aL t))∧Below B w w'∧Lib.OthersKept 5 none w w'∧Kb v.ownBlock.toList w w'∧cn w v v':=by
 have QC:=nY B w v n xs t.size aj hB hn (by omega)
 obtain⟨vd,vc,R7⟩:=ah aj
 subst R7
 have hpw:(128:Nat)^10=1180591620717411303424:=by decide
 have KE:(Rc.aV t.size).length≤10:=Rc.mC 10 t.size (by omega) (by decide)
 clear hpw
 have qb:xs.length=n:=by have:=aj.1;omega
 clear aj
 go_enter Tryz.func77,Tryz.ntmps77
 go_wp2_with (first | (go_at_call 78;refine QC.mono ?_;rintro e w1 ⟨v1,n1,rfl,bj,bk,PT,sL,MQ⟩;have FD:=bj.1;rw[List.length_append,Rc.bC]at FD;have U0:B≤w1.heap.size:=Nat.le_trans hB bk.size) | (at_builtin;obtain⟨i0,hi,eX,eP,eA⟩:=info_parts Tryz.kX;refine o6 _ rfl _ _ 63 9 rfl B 5 i0 Tryz.underlying63 Tryz.underlying9 hi eX eP eA _ _ _ rfl bj t rfl (by unfold maxLen;omega) (by omega) U0 ?_;intro v2 w2 aO ch abh))
 have dL:w1.grownBy w2 v1.ownBlock:=ch
 have cM:Below B w w2:=bk.grown dL U0 (fun k hk=>(bj.lt k hk).1)
 have yW:Lib.OthersKept 5 none w w2:=PT.grown dL (cu bj)
 go_ret
 obtain⟨ml,RY⟩:=Iy sL MQ dL abh
 refine⟨v2,n1+t.size,rfl, ?_,cM,yW,ml,RY⟩
 have e:xs++Rc.bB (Rc.aL t)=xs++Rc.bB (Rc.aV t.size)++Lib.strCells t:=by
  unfold Rc.aL
  rw[Rc.gq,List.append_assoc]
  rfl
 rw[e]
 exact aO
theorem kC(B:Nat)(w:World)(v:Value)(n:Nat)(xs:List Value)(t:ByteArray)(aj:w.ownsRow B 5 1 v n xs)(hB:B≤w.heap.size)(hn:n≤100000000000)(hk:t.size≤1000000000):
 Calls Tryz.prog 77 #[v,.string t] w fun e w'=>∃v' n',e=.returned v'∧w'.ownsRow B 5 1 v' n' (xs++Rc.bB (Rc.aL t))∧Below B w w'∧Lib.OthersKept 5 none w w':=
 (pY B w v n xs t aj hB hn hk).mono (fun _ _ ⟨v',n',h1,h2,h3,h4,_⟩=>⟨v',n',h1,h2,h3,h4⟩)
end
end Go.Proofs.YtdmicblafmhflaaGreatDoor
