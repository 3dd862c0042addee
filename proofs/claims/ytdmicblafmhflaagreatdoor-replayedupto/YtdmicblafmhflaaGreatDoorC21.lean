/- Package follow: the state of a search as it lies. -/
import Derived.Test.YtdmicblafmhflaaGreatDoorC17
import Derived.Test.YtdmicblafmhflaaGreatDoorC19
import Derived.Test.YtdmicblafmhflaaGreatDoorC12
import Derived.Test.YtdmicblafmhflaaGreatDoorC20
import Derived.Test.YtdmicblafmhflaaGreatDoorC18
import Derived.Test.YtdmicblafmhflaaGreatDoorC13
import Derived.Test.YtdmicblafmhflaaGreatDoorC11
import Derived.Test.YtdmicblafmhflaaGreatDoorC07
set_option linter.unusedSimpArgs false
set_option linter.unusedVariables false
set_option maxHeartbeats 2000000
set_option maxRecDepth 100000
namespace Go.Proofs.YtdmicblafmhflaaGreatDoor
section
open Go.RowKit Go.Maps Go.WideMaps Go.WideElems
open Go.Sort (grow)
def cR(v:Value):Option (DataW Unit×List MemPlace):=match v with
 | .pointer none=>some (.lit (.int .i64 (-1)),[])
 | .pointer (some ⟨g,0,none⟩)=>some (.lit (.int .i64 g),[])
 | _=>none
theorem oI{v:Value}{g:Nat}{ps:List MemPlace}(h:cR v=some (.lit (.int .i64 g),ps)):v=.pointer (some ⟨g,0,none⟩):=by
 unfold cR at h
 split at h
 · simp at h
 · rename_i g'
   simp at h
   have e:g'=g:=by omega
   rw[e]
 · cases h
structure ks(w:World)(mb:Nat)(m:List (ByteArray×Nat)):Prop where
 has:∃n D,w.ownsMap Tryz.prog 9 cR mb n D∧n≤1000000∧∀p:ByteArray,Maps.has D (aY p)=(Ax.look m p).isSome∧∀g,Ax.look m p=some g→D.atKey (aY p) (.lit (.int .i64 (-1)))=.lit (.int .i64 g)
theorem ks.kept{w w':World}{S:List Nat}{mb:Nat}{m:List (ByteArray×Nat)}(h:ks w mb m)(hk:Kb S w w')(hS:¬mb∈S):ks w' mb m:=by
 obtain⟨n,D,⟨es,ck,hb,hr⟩,hn,hD⟩:=h.has
 exact⟨n,D,⟨es,ck,hk.heap hb hS,hr⟩,hn,hD⟩
theorem ks.below{w w':World}{mb:Nat}{m:List (ByteArray×Nat)}(h:ks w mb m)(hb:Below w.heap.size w w'):ks w' mb m:=h.kept (Kb.bF hb []) (by simp)
theorem ks.block{w:World}{mb:Nat}{m:List (ByteArray×Nat)}(h:ks w mb m):∃es ck,w.heap[mb]?=some (.map es ck):=by
 obtain⟨n,D,⟨es,ck,hb,hr⟩,hn,hD⟩:=h.has
 exact⟨es,ck,hb⟩
theorem ks.look{w:World}{mb:Nat}{m:List (ByteArray×Nat)}(h:ks w mb m){p:ByteArray}{g:Nat}(hl:Ax.look m p=some g)(hp:p.size≤1000000){t e:TypeId}(ht:Tryz.prog.underlying t=some (.map 9 e))(hz:(zeroValue e).run Tryz.prog w=.ok (.pointer none) w):
 (Instr.lookup t (.map (some mb)) (.string p) false).run Tryz.prog w=.ok (.pointer (some ⟨g,0,none⟩)) w:=by
 obtain⟨n,D,al,hn,hD⟩:=h.has
 obtain⟨v,ps,Mr,hv⟩:=al.lookup Tryz.gq ht hz (zd:=.lit (.int .i64 (-1))) (zp:=[]) rfl (key:=.string p) (kl:=aY p) (keyOf_string_mk Tryz.underlying9 (by unfold maxLen;omega))
 rw[(hD p).2 g hl]at hv
 rw[Mr,oI hv]
structure HT where
 nm:ByteArray
 pl:Nat
 g:Nat
 rd:Option Addr
 rc:Nat
 cd:Option Addr
 cc:Nat
 L:List (List ByteArray)
 C:List Nat
def HT.ok(w:World)(t:HT):Prop:=eP w t.g t.nm t.pl t.rd t.rc t.cd t.cc t.L t.C
def HT.bZ(t:HT):List Nat:=km t.g t.rd t.rc t.cd t.cc t.L.length
def HT.pk(t:HT):ByteArray×Nat:=(t.nm,t.g)
def HT.key(t:HT):ByteArray×Nat×Nat:=(t.nm,t.g,t.pl)
theorem HT.ok.types{w:World}{t:HT}(h:t.ok w){b:Nat}(hb:b∈t.bZ):∃cur T,w.heap[b]?=some (.cells cur T (0,0))∧(T=117∨T=119∨T=3):=by
 unfold HT.bZ km at hb
 rcases List.mem_cons.1 hb with rfl | hb
 · exact⟨_,_,h.o7.cU,.inl rfl⟩
 · rcases List.mem_append.1 hb with hb | hb
   · rw[Option.mem_toList]at hb
     obtain⟨cur,e⟩:=aH h.o7.rows.own hb
     exact⟨cur,_,e,.inr (.inl rfl)⟩
   · rw[Option.mem_toList]at hb
     obtain⟨cur,e⟩:=aH h.lu hb
     exact⟨cur,_,e,.inr (.inr rfl)⟩
def qz(f:En.cl):List Value:=.string f.1::f.2.map .string
def cq(l:List En.cl):List Value:=l.flatMap qz
def TT(l:List En.cl):Prop:=∀f,f∈l→f.2.length=3
structure mM(w:World)(sb mb:Nat)(rv:Value)(fd:Option Addr)(fc:Nat)(T:List HT)(s:En.dB En.cl):Prop where
 cU:w.heap[sb]?=some (.cells #[rv,.map (some mb),.slice fd s.found.length fc] 322 (0,0))
 map:ks w mb (T.map HT.pk)
 Bh:w.ownsRow 0 325 4 (.slice fd s.found.length fc) s.found.length (cq s.found)
 b7:∀t,t∈T→t.ok w
 apart:T.Pairwise fun a b=>∀x,x∈a.bZ→¬x∈b.bZ
 names:(T.map HT.nm).Nodup
 rows:∀t,t∈T→∀r,r∈t.L↔(t.nm,r)∈s.found
 vx:∀t,t∈T→t.C=t.L.map fun r=>s.count (t.nm,r)
 zero:∀f,¬f∈s.found→s.count f=0
 three:TT s.found
 short:∀t,t∈T→t.nm.size≤1000000
def dA(sb:Nat)(fd:Option Addr)(fc n:Nat)(T:List HT):List Nat:=sb::((Value.ownBlock (.slice fd n fc)).toList++T.flatMap HT.bZ)
theorem mM.below{w w':World}{sb mb:Nat}{rv:Value}{fd:Option Addr}{fc:Nat}{T:List HT}{s:En.dB En.cl}(h:mM w sb mb rv fd fc T s)(hb:Below w.heap.size w w'):mM w' sb mb rv fd fc T s:=
 ⟨by rw[hb.block sb (lt_of_heap h.cU)];exact h.cU,h.map.below hb,ae h.Bh hb,fun t ht=>(h.b7 t ht).below hb,h.apart,h.names,h.rows,h.vx,h.zero,h.three,h.short⟩
theorem rF:∀{T:List HT} (_:(T.map HT.nm).Nodup) {t:HT},t∈T→Ax.look (T.map HT.pk) t.nm=some t.g
 | [],_,t,h=>by cases h
 | a::T,hn,t,h=>by
  rw[List.map_cons,List.nodup_cons]at hn
  show Ax.look ((a.nm,a.g)::T.map HT.pk) t.nm=_
  rw[iC]
  rcases List.mem_cons.1 h with rfl | h
  · rw[if_pos rfl]
  · have:¬a.nm=t.nm:=fun e=>hn.1 (by rw[e];exact List.mem_map.2 ⟨t,h,rfl⟩)
    rw[if_neg this]
    exact rF hn.2 h
theorem lD{w:World}{sb mb:Nat}{rv:Value}{fd:Option Addr}{fc:Nat}{T:List HT}{s:En.dB En.cl}(h:mM w sb mb rv fd fc T s){b:Nat}(hb:b∈dA sb fd fc s.found.length T):∃cur U,w.heap[b]?=some (.cells cur U (0,0))∧(U=322∨U=325∨U=117∨U=119∨U=3):=by
 unfold dA at hb
 rcases List.mem_cons.1 hb with rfl | hb
 · exact⟨_,_,h.cU,.inl rfl⟩
 · rcases List.mem_append.1 hb with hb | hb
   · rw[Option.mem_toList]at hb
     obtain⟨cur,e⟩:=aH h.Bh hb
     exact⟨cur,_,e,.inr (.inl rfl)⟩
   · obtain⟨t,ht,hb⟩:=List.mem_flatMap.1 hb
     obtain⟨cur,U,e,hU⟩:=(h.b7 t ht).types hb
     exact⟨cur,U,e,.inr (.inr hU)⟩
theorem HT.ok.kept{w w':World}{S:List Nat}{t:HT}(h:t.ok w)(hk:Kb S w w')(hS:∀b,b∈t.bZ→¬b∈S):t.ok w':=eP.kept h hk hS
theorem HT.ok.lt{w:World}{t:HT}(h:t.ok w){b:Nat}(hb:b∈t.bZ):b<w.heap.size:=by
 obtain⟨cur,T,e,_⟩:=h.types hb
 exact lt_of_heap e
def HT.held(t:HT)(rd:Option Addr)(rc:Nat)(cd:Option Addr)(cc:Nat)(r:List ByteArray)(n:Nat):HT:=⟨t.nm,t.pl,t.g,rd,rc,cd,cc,Tb.put t.L r,Tb.pY t.L t.C r n⟩
theorem HT.Ki{w:World}{t:HT}{rd:Option Addr}{rc:Nat}{cd:Option Addr}{cc:Nat}{r:List ByteArray}{n:Nat}(h1:cw w (.slice t.rd t.L.length t.rc) (.slice rd (Tb.put t.L r).length rc))(h2:cw w (.slice t.cd t.L.length t.cc) (.slice cd (Tb.put t.L r).length cc)){b:Nat}(hb:b∈(t.held rd rc cd cc r n).bZ):b∈t.bZ∨w.heap.size≤b:=by
 unfold HT.bZ km at hb ⊢
 rcases List.mem_cons.1 hb with rfl | hb
 · exact .inl (by simp[HT.held])
 · rcases List.mem_append.1 hb with hb | hb
   · rw[Option.mem_toList]at hb
     rcases h1 b hb with e | e
     · exact .inl (by simp only[List.mem_cons,List.mem_append,Option.mem_toList];exact .inr (.inl e))
     · exact .inr e
   · rw[Option.mem_toList]at hb
     rcases h2 b hb with e | e
     · exact .inl (by simp only[List.mem_cons,List.mem_append,Option.mem_toList];exact .inr (.inr e))
     · exact .inr e
abbrev iB(a b:HT):Prop:=∀x,x∈a.bZ→¬x∈b.bZ
theorem iB.symm{a b:HT}(h:iB a b):iB b a:=fun x h1 h2=>h x h2 h1
theorem Jy{w w1:World}{A B:List HT}{t t':HT}(dD:∀u,u∈A++t::B→u.ok w)(GW:(A++t::B).Pairwise iB)(hk:Kb t.bZ w w1)(nV:t'.ok w1)(hf:∀b,b∈t'.bZ→b∈t.bZ∨w.heap.size≤b):
 (∀u,u∈A++t'::B→u.ok w1)∧(A++t'::B).Pairwise iB:=by
 rw[List.pairwise_append,List.pairwise_cons]at GW
 obtain⟨p1,⟨p2,p3⟩,p4⟩:=GW
 have hA:∀a,a∈A→iB a t:=fun a ha=>p4 a ha t (by simp)
 have key:∀u,u.ok w→iB u t→iB u t':=by
  intro u hu hut x hx hx'
  rcases hf x hx' with e | e
  · exact hut x hx e
  · have:=hu.lt hx
    omega
 refine⟨?_, ?_⟩
 · intro u hu
   rcases List.mem_append.1 hu with hu | hu
   · exact(dD u (by simp[hu])).kept hk (fun b hb=>hA u hu b hb)
   · rcases List.mem_cons.1 hu with rfl | hu
     · exact nV
     · exact(dD u (by simp[hu])).kept hk (fun b hb=>(p2 u hu).symm b hb)
 · rw[List.pairwise_append,List.pairwise_cons]
   refine⟨p1,⟨?_,p3⟩, ?_⟩
   · intro b hb
     exact(key b (dD b (by simp[hb])) (p2 b hb).symm).symm
   · intro a ha b hb
     rcases List.mem_cons.1 hb with rfl | hb
     · exact key a (dD a (by simp[ha])) (hA a ha)
     · exact p4 a ha b (by simp[hb])
structure MN(w:World)(sb mb:Nat)(rv:Value)(fd:Option Addr)(fc:Nat)(T:List HT)(F:List En.cl)(s:En.dB En.cl):Prop where
 cU:w.heap[sb]?=some (.cells #[rv,.map (some mb),.slice fd F.length fc] 322 (0,0))
 map:ks w mb (T.map HT.pk)
 Bh:w.ownsRow 0 325 4 (.slice fd F.length fc) F.length (cq F)
 b7:∀t,t∈T→t.ok w
 apart:T.Pairwise iB
 names:(T.map HT.nm).Nodup
 rows:∀t,t∈T→∀r,r∈t.L↔(t.nm,r)∈s.found
 vx:∀t,t∈T→t.C=t.L.map fun r=>s.count (t.nm,r)
 zero:∀f,¬f∈s.found→s.count f=0
 three:TT s.found
 short:∀t,t∈T→t.nm.size≤1000000
theorem vT{s:En.dB En.cl}{f g:En.cl}{n:Nat}:g∈(En.hold s f n).found↔g=f∨g∈s.found:=by
 unfold En.hold
 simp only
 split
 · rename_i h
   constructor
   · exact .inr
   · rintro(rfl | h2)
     · exact h
     · exact h2
 · rw[List.mem_append,List.mem_singleton]
   exact Or.comm
theorem mM.mid{w W w1:World}{sb mb:Nat}{rv:Value}{fd:Option Addr}{fc:Nat}{A B:List HT}{t:HT}{s:En.dB En.cl}(h:mM w sb mb rv fd fc (A++t::B) s)(hW:Below w.heap.size w W)
 {rd':Option Addr}{rc':Nat}{cd':Option Addr}{cc':Nat}{r:List ByteArray}{n:Nat}(hr:r.length=3)
 (nV:(t.held rd' rc' cd' cc' r n).ok w1)(hk:Kb t.bZ W w1)(h1:cw W (.slice t.rd t.L.length t.rc) (.slice rd' (Tb.put t.L r).length rc'))(h2:cw W (.slice t.cd t.L.length t.cc) (.slice cd' (Tb.put t.L r).length cc')):
 MN w1 sb mb rv fd fc (A++t.held rd' rc' cd' cc' r n::B) s.found (En.hold s (t.nm,r) n)∧Kb t.bZ w w1∧(∀b,b∈(t.held rd' rc' cd' cc' r n).bZ→b∈t.bZ∨w.heap.size≤b):=by
 have qL:=h.below hW
 have EY:t∈A++t::B:=by simp
 have U7:=qL.b7 t EY
 have iM:∀b,b∈t.bZ→∀cur U,W.heap[b]?=some (.cells cur U (0,0))→(U=117∨U=119∨U=3):=by
  intro b hb cur U e
  obtain⟨jX,U',e',hU⟩:=U7.types hb
  rw[e]at e'
  simp only[Option.some.injEq,Obj.cells.injEq]at e'
  rw[e'.2.1]
  exact hU
 have hf:∀b,b∈(t.held rd' rc' cd' cc' r n).bZ→b∈t.bZ∨W.heap.size≤b:=fun b hb=>HT.Ki h1 h2 hb
 obtain⟨dD,GW⟩:=Jy qL.b7 qL.apart hk nV hf
 have C6:=h.names
 rw[List.map_append,List.map_cons,List.nodup_append,List.nodup_cons]at C6
 have Nf:∀u,u∈A∨u∈B→u.nm≠t.nm:=by
  rintro u (hu | hu) e
  · exact C6.2.2 u.nm (List.mem_map.2 ⟨u,hu,rfl⟩) t.nm (by simp) e
  · exact C6.2.1.1 (by rw[←e];exact List.mem_map.2 ⟨u,hu,rfl⟩)
 have GR:∀u,u∈A++t.held rd' rc' cd' cc' r n::B→u=t.held rd' rc' cd' cc' r n∨(u∈A++t::B∧u.nm≠t.nm):=by
  intro u hu
  rcases List.mem_append.1 hu with hu | hu
  · exact .inr ⟨by simp[hu],Nf u (.inl hu)⟩
  · rcases List.mem_cons.1 hu with rfl | hu
    · exact .inl rfl
    · exact .inr ⟨by simp[hu],Nf u (.inr hu)⟩
 refine⟨⟨?_, ?_, ?_,dD,GW, ?_, ?_, ?_, ?_, ?_, ?_⟩,(Kb.bF hW _).trans hk,fun b hb=> ?_⟩
 · refine hk.heap qL.cU ?_
   intro hc
   have:=iM sb hc _ _ qL.cU
   rcases this with e | e | e<;>cases e
 · have e:(A++t.held rd' rc' cd' cc' r n::B).map HT.pk=(A++t::B).map HT.pk:=by simp[HT.pk,HT.held]
   rw[e]
   refine qL.map.kept hk ?_
   intro hc
   obtain⟨es,ck,eb⟩:=qL.map.block
   obtain⟨cur,U,e2,_⟩:=U7.types hc
   rw[eb]at e2
   cases e2
 · refine hk.row qL.Bh ?_
   intro b hb hc
   obtain⟨cur,e⟩:=aH qL.Bh hb
   have:=iM b hc _ _ e
   rcases this with e | e | e<;>cases e
 · have e:(A++t.held rd' rc' cd' cc' r n::B).map HT.nm=(A++t::B).map HT.nm:=by simp[HT.held]
   rw[e]
   exact h.names
 · intro u hu x
   rw[vT]
   rcases GR u hu with rfl | ⟨hu,cA⟩
   · show x∈Tb.put t.L r↔_
     rw[Tb.vS,h.rows t EY]
     constructor
     · rintro(rfl | e)
       · exact .inl rfl
       · exact .inr e
     · rintro(e | e)
       · exact .inl (by simpa [HT.held]using e)
       · exact .inr e
   · rw[h.rows u hu]
     constructor
     · exact .inr
     · rintro(e | e)
       · simp only[Prod.mk.injEq]at e
         exact absurd e.1 cA
       · exact e
 · intro u hu
   rcases GR u hu with rfl | ⟨hu,cA⟩
   · show Tb.pY t.L t.C r n=(Tb.put t.L r).map _
     rw[h.vx t EY,Tb.Ql (U7.o7.ord) r n _ (fun hc=>h.zero _ (fun e=>hc ((h.rows t EY r).2 e)))]
     refine List.map_congr_left fun x _=> ?_
     show _=(En.hold s (t.nm,r) n).count (t.nm,x)
     rw[En.iV]
     by_cases e:x=r
     · subst e;simp
     · simp[e]
   · rw[h.vx u hu]
     refine List.map_congr_left fun x _=> ?_
     rw[En.iV,if_neg (by simp only[Prod.mk.injEq,not_and];exact fun e=>absurd e cA),Nat.add_zero]
 · intro g hg
   rw[En.iV]
   have h3:¬g=(t.nm,r)∧¬g∈s.found:=by
    constructor
    · intro e;exact hg (vT.2 (.inl e))
    · intro e;exact hg (vT.2 (.inr e))
   rw[if_neg h3.1,Nat.add_zero]
   exact h.zero g h3.2
 · intro g hg
   rcases vT.1 hg with rfl | hg
   · exact hr
   · exact h.three g hg
 · intro u hu
   rcases GR u hu with rfl | ⟨hu,_⟩
   · exact h.short t EY
   · exact h.short u hu
 · rcases hf b hb with e | e
   · exact .inl e
   · exact .inr (Nat.le_trans hW.size e)
end
/- Tables of what was given; maps of tables, as they are made. -/
section
open Go.RowKit Go.Maps Go.WideMaps Go.WideElems
def Fi(D:DataW Unit)(m:List (ByteArray×Nat)):Prop:=
 ∀p:ByteArray,Maps.has D (aY p)=(Ax.look m p).isSome∧∀g,Ax.look m p=some g→D.atKey (aY p) (.lit (.int .i64 (-1)))=.lit (.int .i64 g)
theorem B4:Fi (.map []) []:=fun p=>⟨rfl,fun n h=>by simp[Ax.look]at h⟩
theorem Bd{D:DataW Unit}{m:List (ByteArray×Nat)}(h:Fi D m)(hD:IsMap D)(p:ByteArray)(n:Nat):Fi (D.put (aY p) (.lit (.int .i64 n))) ((p,n)::m):=by
 intro q
 rw[iC]
 by_cases e:p=q
 · subst e
   rw[if_pos rfl,has_put_same hD (k:=aY p) trivial,atKey_put_same hD (k:=aY p) trivial]
   exact⟨rfl,fun k hk=>by simp at hk;rw[hk]⟩
 · have cA:aY q≠aY p:=fun h2=>e (ke h2).symm
   rw[if_neg e,has_put_other cA,atKey_put_other cA]
   exact h q
theorem ks.of{w:World}{mb n:Nat}{D:DataW Unit}{m:List (ByteArray×Nat)}(h:w.ownsMap Tryz.prog 9 cR mb n D)(hn:n≤1000000)(hD:Fi D m):ks w mb m:=⟨n,D,h,hn,hD⟩
theorem KA:∀{m:List (ByteArray×Nat)} {p:ByteArray},¬p∈m.map Prod.fst→Ax.look m p=none
 | [],_,_=>rfl
 | (q,n)::m,p,h=>by
  rw[iC]
  simp only[List.map_cons,List.mem_cons,not_or]at h
  rw[if_neg (fun e=>h.1 e.symm)]
  exact KA h.2
structure GT where
 nm:ByteArray
 pl:Nat
 g:Nat
 rd:Option Addr
 rc:Nat
 L:List (List ByteArray)
def GT.ok(w:World)(t:GT):Prop:=cp w t.g 125 t.nm t.pl t.rd t.rc t.L []
def GT.bZ(t:GT):List Nat:=t.g::(Value.ownBlock (.slice t.rd t.L.length t.rc)).toList
def GT.key(t:GT):ByteArray×Nat:=(t.nm,t.g)
theorem GT.ok.types{w:World}{t:GT}(h:t.ok w){b:Nat}(hb:b∈t.bZ):∃cur T,w.heap[b]?=some (.cells cur T (0,0))∧(T=125∨T=119):=by
 unfold GT.bZ at hb
 rcases List.mem_cons.1 hb with rfl | hb
 · exact⟨_,_,cp.cU h,.inl rfl⟩
 · rw[Option.mem_toList]at hb
   obtain⟨cur,e⟩:=aH (cp.rows h).own hb
   exact⟨cur,_,e,.inr rfl⟩
theorem GT.ok.lt{w:World}{t:GT}(h:t.ok w){b:Nat}(hb:b∈t.bZ):b<w.heap.size:=by
 obtain⟨cur,T,e,_⟩:=h.types hb
 exact lt_of_heap e
theorem GT.ok.kept{w w':World}{S:List Nat}{t:GT}(h:t.ok w)(hk:Kb S w w')(hS:∀b,b∈t.bZ→¬b∈S):t.ok w':=
 cp.kept h hk (hS t.g (by simp[GT.bZ])) (fun b hb=>hS b (by simp[GT.bZ,hb]))
theorem GT.ok.below{w w':World}{t:GT}(h:t.ok w)(hb:Below w.heap.size w w'):t.ok w':=cp.below h hb
abbrev GO(a b:GT):Prop:=∀x,x∈a.bZ→¬x∈b.bZ
structure lB(w:World)(mb:Nat)(G:List GT):Prop where
 map:ks w mb (G.map GT.key)
 b7:∀t,t∈G→t.ok w
 apart:G.Pairwise GO
 names:(G.map GT.nm).Nodup
 short:∀t,t∈G→t.nm.size≤1000000
def eV(mb:Nat)(G:List GT):List Nat:=mb::G.flatMap GT.bZ
theorem lB.below{w w':World}{mb:Nat}{G:List GT}(h:lB w mb G)(hb:Below w.heap.size w w'):lB w' mb G:=⟨h.map.below hb,fun t ht=>(h.b7 t ht).below hb,h.apart,h.names,h.short⟩
theorem lB.kept{w w':World}{S:List Nat}{mb:Nat}{G:List GT}(h:lB w mb G)(hk:Kb S w w')(hS:∀b,b∈eV mb G→¬b∈S):lB w' mb G:=by
 refine⟨h.map.kept hk (hS mb (by simp[eV])),fun t ht=>(h.b7 t ht).kept hk fun b hb=>hS b ?_,h.apart,h.names,h.short⟩
 unfold eV
 simp only[List.mem_cons,List.mem_flatMap]
 exact .inr ⟨t,ht,hb⟩
theorem lB.lt{w:World}{mb:Nat}{G:List GT}(h:lB w mb G){b:Nat}(hb:b∈eV mb G):b<w.heap.size:=by
 unfold eV at hb
 rcases List.mem_cons.1 hb with rfl | hb
 · obtain⟨es,ck,e⟩:=h.map.block
   exact lt_of_heap e
 · obtain⟨t,ht,hb⟩:=List.mem_flatMap.1 hb
   exact(h.b7 t ht).lt hb
theorem iW:∀{G:List GT} (_:(G.map GT.nm).Nodup) {t:GT},t∈G→Ax.look (G.map GT.key) t.nm=some t.g
 | [],_,t,h=>by cases h
 | a::G,hn,t,h=>by
  rw[List.map_cons,List.nodup_cons]at hn
  show Ax.look ((a.nm,a.g)::G.map GT.key) t.nm=_
  rw[iC]
  rcases List.mem_cons.1 h with rfl | h
  · rw[if_pos rfl]
  · have:¬a.nm=t.nm:=fun e=>hn.1 (by rw[e];exact List.mem_map.2 ⟨t,h,rfl⟩)
    rw[if_neg this]
    exact iW hn.2 h
end
/- facts.Given.Come. -/
section
open Go.RowKit
theorem Dx(w:World)(g:Nat)(nm:ByteArray)(pl:Nat)(rd:Option Addr)(rc:Nat)(L:List (List ByteArray))(a b c:ByteArray)(h:cp w g 125 nm pl rd rc L [])(hL:L.length≤999999):
 Calls Tryz.prog 127 #[.pointer (some ⟨g,0,none⟩),.agg #[.string a,.string b,.string c]] w fun e w'=>∃rd' rc',
  e=.returned (.tuple #[])∧cp w' g 125 nm pl rd' rc' (Tb.put L [a,b,c]) []∧
   Kb (g::(Value.ownBlock (.slice rd L.length rc)).toList) w w'∧cw w (.slice rd L.length rc) (.slice rd' (Tb.put L [a,b,c]).length rc'):=by
 obtain⟨w0,cZ⟩:∃w0,w0=w.alloc (.cells #[.string a,.string b,.string c] 119):=⟨_,rfl⟩
 have bL:Below w.heap.size w w0:=by rw[cZ];exact(Below.refl _ _).alloc (Nat.le_refl _) _
 have lX:w0.heap[w.heap.size]?=some (.cells #[.string a,.string b,.string c] 119 (0,0)):=by rw[cZ];exact heap_alloc_new w _
 have t0:w0.cell? ⟨w.heap.size,0,none⟩=some (.string a):=by rw[cell_of_row _ _ 0 _ _ _ lX];rfl
 have t1:w0.cell? ⟨w.heap.size,1,none⟩=some (.string b):=by rw[cell_of_row _ _ 1 _ _ _ lX];rfl
 have t2:w0.cell? ⟨w.heap.size,2,none⟩=some (.string c):=by rw[cell_of_row _ _ 2 _ _ _ lX];rfl
 have h0:=h.below bL
 have hp:Hid (∀W,Below w0.heap.size w0 W→Calls Tryz.prog 196 #[.pointer (some ⟨g,0,none⟩),.agg #[.string a,.string b,.string c]] W fun e w1=>∃rd' rc' x y,
  e=.returned (.tuple #[x,y])∧Hid (cp w1 g 125 nm pl rd' rc' (Tb.put L [a,b,c]) []∧
   Kb (g::(Value.ownBlock (.slice rd L.length rc)).toList) w w1∧cw w (.slice rd L.length rc) (.slice rd' (Tb.put L [a,b,c]).length rc'))):=by
  intro W hW
  refine(Hm W g _ nm pl rd rc L _ a b c (h0.below hW) hL).mono ?_
  rintro e w1 ⟨rd',rc',rfl,q1,q2,q3⟩
  have qL:Below w.heap.size w W:=bL.trans (hW.mono bL.size)
  exact⟨rd',rc',_,_,rfl,q1,(Kb.bF qL _).trans q2,q3.mono qL.size⟩
 have mO:=lt_of_heap h.cU
 clear h h0 lX
 go_enter Tryz.func127,Tryz.ntmps127
 go_wp2_with fail
 rw[←cZ]
 clear cZ
 go_region_with (go_at_call 196;refine(hp.out _ (by exact(Below.refl _ _).drew)).mono ?_;rintro e w1 ⟨rd',rc',x,y,rfl,HE⟩)
 all_goals
  go_end0
  exact⟨rd',rc',rfl,HE.out.1,HE.out.2.1,HE.out.2.2⟩
end
/- The predicates of a program: in the order of their names, each once. No program here. -/
namespace Pd
open Tb
abbrev Pr:=ByteArray×Nat
def ur(acc:List Pr)(x:Pr):List Pr:=if acc.getLast?=some x then acc else acc++[x]
def mv(l:List Pr):List Pr:=l.foldl ur []
theorem sw(l:List Pr)(x:Pr):mv (l++[x])=ur (mv l) x:=by simp[mv]
theorem Gs(acc:List Pr)(x:Pr):(ur acc x).getLast?=some x:=by
 unfold ur
 split
 · assumption
 · simp
theorem L2(l:List Pr)(x:Pr):(mv (l++[x])).getLast?=some x:=by rw[sw];exact Gs _ _
theorem Ls{acc:List Pr}{x y:Pr}:y∈ur acc x↔y∈acc∨y=x:=by
 unfold ur
 split
 · rename_i h
   constructor
   · exact .inl
   · rintro(h2 | rfl)
     · exact h2
     · exact List.mem_of_getLast? h
 · simp
theorem Et{p:List Pr→Prop}(h0:p [])(h1:∀l x,p l→p (l++[x]))(l:List Pr):p l:=by
 rw[←List.reverse_reverse l]
 induction l.reverse with
 | nil=>exact h0
 | cons x t ih=>rw[List.reverse_cons];exact h1 _ _ ih
theorem Bi(l:List Pr){y:Pr}:y∈mv l↔y∈l:=by
 induction l using Et with
 | h0=>rfl
 | h1 l x ih=>rw[sw,Ls,ih];simp
theorem iX(D:List Pr){m:Nat}(hm:m<D.length)(h0:0<m):mv (D.take (m+1))=if D[m]=D[m-1]then mv (D.take m)else mv (D.take m)++[D[m]]:=by
 have e:D.take (m+1)=D.take m++[D[m]]:=by rw[List.take_add_one,List.getElem?_eq_getElem hm];rfl
 have e1:D.take m=D.take (m-1)++[D[m-1]]:=by
  have:=List.take_add_one (l:=D) (i:=m-1)
  rw[show m-1+1=m by omega,List.getElem?_eq_getElem (by omega)]at this
  exact this
 have hl:(mv (D.take m)).getLast?=some D[m-1]:=by rw[e1];exact L2 _ _
 rw[e,sw,ur,hl]
 by_cases h:D[m-1]=D[m]
 · rw[if_pos (by rw[h]),if_pos h.symm]
 · rw[if_neg (by simpa using h),if_neg (fun k=>h k.symm)]
theorem Co(D:List Pr)(h:0<D.length):mv (D.take 1)=[D[0]]:=by
 cases D with
 | nil=>simp at h
 | cons x D=>rfl
def vF(l:List Pr):Prop:=l.Pairwise fun a b=>slt a.1 b.1=true
theorem IY:∀{a b:List Pr},vF a→vF b→(∀x,x∈a↔x∈b)→a=b
 | [],[],_,_,_=>rfl
 | [],y::b,_,_,h=>by have:=(h y).2 (by simp);simp at this
 | x::a,[],_,_,h=>by have:=(h x).1 (by simp);simp at this
 | x::a,y::b,ha,hb,h=>by
  obtain⟨VO,V7⟩:=List.pairwise_cons.1 ha
  obtain⟨a8,cM⟩:=List.pairwise_cons.1 hb
  have e:x=y:=by
   rcases List.mem_cons.1 ((h x).1 (by simp))with e | e
   · exact e
   · rcases List.mem_cons.1 ((h y).2 (by simp))with e2 | e2
     · exact e2.symm
     · have h1:=a8 x e
       have h2:=VO y e2
       rw[yi h1]at h2
       cases h2
  subst e
  have Y3:∀{z:Pr},slt x.1 z.1=true→z≠x:=by
   rintro z hz rfl
   rw[na]at hz
   cases hz
  rw[IY V7 cM (fun z=> ?_)]
  constructor
  · intro hz
    rcases List.mem_cons.1 ((h z).1 (by simp[hz]))with e | e
    · exact absurd e (Y3 (VO z hz))
    · exact e
  · intro hz
    rcases List.mem_cons.1 ((h z).2 (by simp[hz]))with e | e
    · exact absurd e (Y3 (a8 z hz))
    · exact e
def One(l:List Pr):Prop:=∀a,a∈l→∀b,b∈l→a.1=b.1→a=b
theorem Q0(l:List Pr)(hs:l.Pairwise fun a b=>slt b.1 a.1=false)(h1:One l):vF (mv l):=by
 induction l using Et with
 | h0=>exact List.Pairwise.nil
 | h1 l x ih=>
  rw[List.pairwise_append]at hs
  obtain⟨s1,_,s3⟩:=hs
  have hx:∀y,y∈l→slt x.1 y.1=false:=fun y hy=>s3 y hy x (by simp)
  have Y8:=ih s1 (fun a ha b hb=>h1 a (by simp[ha]) b (by simp[hb]))
  rw[sw,ur]
  split
  · exact Y8
  · rename_i hl
    unfold vF
    rw[List.pairwise_append]
    refine⟨Y8,List.pairwise_singleton _ _, ?_⟩
    intro y hy z hz
    simp only[List.mem_singleton]at hz
    subst hz
    have QY:=(Bi l).1 hy
    cases hc:slt y.1 z.1 with
    | true=>rfl
    | false=>
     exfalso
     have e1:=vG hc (hx y QY)
     have e2:=h1 y (by simp[QY]) z (by simp) e1
     subst e2
     obtain⟨q,hq⟩:∃q,(mv l).getLast?=some q:=by
      cases h:(mv l).getLast? with
      | none=>rw[List.getLast?_eq_none_iff]at h;rw[h]at hy;simp at hy
      | some q=>exact⟨q,rfl⟩
     have cA:q≠y:=fun e=>hl (by rw[hq,e])
     have SQ:mv l=(mv l).dropLast++[q]:=by
      have hn:mv l≠[]:=fun e=>by rw[e]at hy;simp at hy
      have:=List.dropLast_concat_getLast hn
      have e3:(mv l).getLast hn=q:=by rw[List.getLast?_eq_some_getLast hn]at hq;simpa using hq
      rw[e3]at this
      exact this.symm
     have hyd:y∈(mv l).dropLast:=by
      rw[SQ]at hy
      rcases List.mem_append.1 hy with e | e
      · exact e
      · simp only[List.mem_singleton]at e;exact absurd e.symm cA
     unfold vF at Y8
     rw[SQ,List.pairwise_append]at Y8
     have k1:=Y8.2.2 y hyd q (by simp)
     have k2:=hx q ((Bi l).1 (List.mem_of_getLast? hq))
     rw[k1]at k2
     cases k2
end Pd
/- strings.Builder's String; plainForm. -/
section
open Go.RowKit
theorem below_freeze{B:Nat}{a w:World}(h:Below B a w){p:Addr}(hp:B≤p.block)(n:Nat):Below B a (w.freeze p n):=by
 refine h.trans ⟨?_, ?_, ?_, ?_, ?_⟩
 all_goals unfold World.freeze
 all_goals split
 all_goals first | rfl | exact Nat.le_refl _ | skip
 · simp
 · intro k _;rfl
 · intro k hk
   simp only[Array.getElem?_modify]
   rw[if_neg (by omega)]
theorem Eh(B b:Nat)(l:List UInt8)(w:World)(h:Q9 B w b l)(NW:l≠[]):
 Calls Tryz.prog 185 #[.pointer (some ⟨b,0,none⟩)] w fun e w'=>e=.returned (.string ⟨l.toArray⟩)∧Below B w w':=by
 obtain⟨p,v,hp,hb,al,_⟩:=h
 have hl:l.length≠0:=by simpa using NW
 have bH:=fun g hg=>World.ownsRow.cells al (g:=g) hg
 obtain⟨g,cap,cur,rfl,OJ,hg,VE,Ci,cE⟩:∃g cap cur,v=.slice (some ⟨g,0,none⟩) l.length cap∧B≤g∧w.heap[g]?=some (.cells cur 5 (0,0))∧l.length≤cap∧cap≤maxLen∧cur.size=cap*1:=by
  rcases al.2 with⟨_,hz⟩ | ⟨g,cap,cur,hv,h1,h2,h3,h4,h5,_⟩
  · exact absurd hz hl
  · exact⟨g,cap,cur,hv,h1,h2,h3,h4,h5⟩
 have c1:w.drew.cell? ⟨b,1,none⟩=some (.slice (some ⟨g,0,none⟩) l.length cap):=by
  have:w.drew.heap[b]?=some (.cells #[p,.slice (some ⟨g,0,none⟩) l.length cap] 314 (0,0)):=hb
  rw[ab this];rfl
 have hSD:(Builtin.unsafeSliceData_ #[63] 351 #[.slice (some ⟨g,0,none⟩) l.length cap]).run Tryz.prog w.drew=.ok (.pointer (some ⟨g,0,none⟩)) w.drew:=
  Lib.run_unsafeSliceData_row _ _ _ _ _ _ (by omega)
 have hUS:(Builtin.unsafeString_ #[351,3] 9 #[.pointer (some ⟨g,0,none⟩),.int .i64 l.length]).run Tryz.prog w.drew=.ok (.string ⟨l.toArray⟩) (w.drew.freeze ⟨g,0,none⟩ l.length):=by
  refine Lib.run_unsafeString_row w.drew 351 3 9 5 Tryz.underlying351 Tryz.A0 g cur.size ?_ l NW (by omega) (by unfold maxLen at Ci;omega) ?_
  · have WD:w.drew.heap[g]?=some (.cells cur 5 (0,0)):=hg
    simp[World.shape?,WD]
  · intro j x hx
    exact bH g rfl j (.int .u8 x.toNat) (by simp[Lib.byteCells,hx])
 have nW:Hid (Below B w (w.drew.freeze ⟨g,0,none⟩ l.length)):=below_freeze ((Below.refl B w).drew) (p:=⟨g,0,none⟩) OJ _
 clear bH al hb hg
 go_enter Tryz.func185,Tryz.ntmps185
 go_wp2_with fail
 go_region
 all_goals (go_wp2_with fail)
 all_goals go_ret
 all_goals (exact⟨rfl,nW.out⟩)
theorem CR(B b:Nat)(w:World)(h:Q9 B w b []):
 Calls Tryz.prog 185 #[.pointer (some ⟨b,0,none⟩)] w fun e w'=>e=.returned (.string ⟨#[]⟩)∧Below B w w':=by
 obtain⟨p,v,hp,hb,al,Gf⟩:=h
 obtain rfl:=Gf rfl
 have c1:w.drew.cell? ⟨b,1,none⟩=some (.slice none 0 0):=by
  have:w.drew.heap[b]?=some (.cells #[p,.slice none 0 0] 314 (0,0)):=hb
  rw[ab this];rfl
 have hSD:(Builtin.unsafeSliceData_ #[63] 351 #[.slice none 0 0]).run Tryz.prog w.drew=.ok (.pointer none) w.drew:=rfl
 have hUS:(Builtin.unsafeString_ #[351,3] 9 #[.pointer none,.int .i64 0]).run Tryz.prog w.drew=.ok (.string ⟨#[]⟩) w.drew:=Lib.run_unsafeString_none _ _ _ _ _
 clear al Gf hb
 go_enter Tryz.func185,Tryz.ntmps185
 go_wp2_with fail
 go_region
 all_goals (go_wp2_with fail)
 all_goals go_ret
 all_goals (exact⟨rfl,(Below.refl B w).drew⟩)
theorem Q9.alloc{B:Nat}{w:World}{b:Nat}{l:List UInt8}(h:Q9 B w b l)(o:Obj):Q9 B (w.alloc o) b l:=by
 obtain⟨p,v,hp,hb,al,hn⟩:=h
 exact⟨p,v,hp,(Below.heap_alloc _ _ _ (lt_of_heap hb)).trans hb,al.alloc o,hn⟩
def dt(l:List Ax.Tok):List UInt8:=l.flatMap fun t=>t.text.data.toList
theorem pV(w:World)(bs:Nat)(td:Option Addr)(tc:Nat)(aa:List Ax.Tok)(h:w.ownsRow bs 210 3 (.slice td aa.length tc) aa.length (di aa))(hl:aa.length≤1000)(ht:∀t,t∈aa→t.text.size≤600):
 Calls Tryz.prog 109 #[.slice td aa.length tc] w fun e w'=>e=.returned (.string ⟨(dt aa).toArray⟩)∧Below w.heap.size w w':=by
 have HT:Hid (∀t,t∈aa→t.text.size≤600):=ht
 clear ht
 go_enter Tryz.func109,Tryz.ntmps109
 go_wp2_with fail
 go_loopw [8] (fun i wr=>∃k:Nat,k≤aa.length∧i=.int .i64 k∧Q9 w.heap.size wr w.heap.size (dt (aa.take k))∧Below w.heap.size w wr∧(dt (aa.take k)).length≤600*k∧w.heap.size<wr.heap.size) (fun i _=>aa.length-(intOf i).toNat)
 case atStart=>exact⟨0,Nat.zero_le _,rfl,⟨_,_,.inl rfl,heap_alloc_new _ _,World.ownsRow_nil _ _ _ _,fun _=>rfl⟩,(Below.refl _ _).alloc (Nat.le_refl _) _,Nat.le_refl _,by simp⟩
 case round=>
  obtain⟨k,hk,rfl,Oo,aU,hlen,Nw⟩:=hrel
  by_cases aE:k<aa.length
  · have bQ:=ae h aU
    obtain⟨g,rfl,hg,hc,bH⟩:=aD bQ (by omega)
    have c0:=bH _ _ (j5 aa k aE).1
    have c1:=bH _ _ (j5 aa k aE).2.1
    have c2:=bH _ _ (j5 aa k aE).2.2
    have hts:=HT.out _ (List.getElem_mem aE)
    have uG:dt (aa.take (k+1))=dt (aa.take k)++(aa[k]).text.data.toList:=by
     rw[List.take_succ_eq_append_getElem aE];simp only[dt,List.flatMap_append,List.flatMap_cons,List.flatMap_nil,List.append_nil]
    have HN:Hid (dt (aa.take (k+1))=dt (aa.take k)++(aa[k]).text.data.toList):=uG
    clear uG bH bQ
    generalize aa[k]=t at*
    generalize dt (aa.take k)=L at*
    go_wp2_with (go_at_call 184;refine(vy w.heap.size w.heap.size _ _ _ (Q9.alloc Oo _) (Nat.le_refl _) (by omega)).mono ?_;rintro e w1 ⟨rfl,Zd,se⟩)
    go_roundw
    case rel=>
     refine⟨k+1,by omega,by go_num,by rw[HN.out];exact Zd,(aU.alloc (by omega) _).trans se, ?_, ?_⟩
     · rw[HN.out,List.length_append]
       have:t.text.data.toList.length=t.text.size:=by simp
       omega
     · have:=se.size;simp at this;omega
    case measure=>simp[intOf];omega
  · obtain rfl:k=aa.length:=by omega
    rw[List.take_length]at Oo
    by_cases cA:dt aa=[]
    · rw[cA]at Oo
      have HE:Hid (dt aa=[]):=cA
      clear cA hlen
      go_wp2_with (go_at_call 185;refine(CR w.heap.size _ _ Oo).mono ?_;rintro e w1 ⟨rfl,a8⟩)
      go_ret
      exact⟨by rw[HE.out];rfl,aU.trans a8⟩
    · have HE:Hid (dt aa≠[]):=cA
      clear hlen cA
      go_wp2_with (go_at_call 185;refine(Eh w.heap.size _ _ _ Oo HE.out).mono ?_;rintro e w1 ⟨rfl,a8⟩)
      go_ret
      exact⟨rfl,aU.trans a8⟩
end
end Go.Proofs.YtdmicblafmhflaaGreatDoor
