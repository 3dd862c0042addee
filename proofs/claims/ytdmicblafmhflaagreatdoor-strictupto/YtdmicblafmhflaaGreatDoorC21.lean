/- Package follow: the state of a search as it lies. -/
import Derived.Test.YtdmicblafmhflaaGreatDoorC17
import Derived.Test.YtdmicblafmhflaaGreatDoorC19
import Derived.Test.YtdmicblafmhflaaGreatDoorC12
import Derived.Test.YtdmicblafmhflaaGreatDoorC20
import Derived.Test.YtdmicblafmhflaaGreatDoorC18
import Derived.Test.YtdmicblafmhflaaGreatDoorC13
import Derived.Test.YtdmicblafmhflaaGreatDoorC11
import Derived.Test.YtdmicblafmhflaaGreatDoorC07
set_option linter.unusedSimpArgs false
set_option linter.unusedVariables false
set_option maxHeartbeats 2000000
set_option maxRecDepth 100000
namespace Go.Proofs.YtdmicblafmhflaaGreatDoor
section
open Go.RowKit Go.Maps Go.WideMaps Go.WideElems
open Go.Sort (grow)
def cS(v:Value):Option (DataW Unit×List MemPlace):=match v with
 | .pointer none=>some (.lit (.int .i64 (-1)),[])
 | .pointer (some ⟨g,0,none⟩)=>some (.lit (.int .i64 g),[])
 | _=>none
theorem oz{v:Value}{g:Nat}{ps:List MemPlace}(h:cS v=some (.lit (.int .i64 g),ps)):v=.pointer (some ⟨g,0,none⟩):=by
 unfold cS at h
 split at h
 · simp at h
 · rename_i g'
   simp at h
   have e:g'=g:=by omega
   rw[e]
 · cases h
structure kh(w:World)(mb:Nat)(m:List (ByteArray×Nat)):Prop where
 has:∃n D,w.ownsMap Tryz.prog 9 cS mb n D∧n≤1000000∧∀p:ByteArray,Maps.has D (aY p)=(Ax.look m p).isSome∧∀g,Ax.look m p=some g→D.atKey (aY p) (.lit (.int .i64 (-1)))=.lit (.int .i64 g)
theorem kh.kept{w w':World}{S:List Nat}{mb:Nat}{m:List (ByteArray×Nat)}(h:kh w mb m)(hk:Kb S w w')(hS:¬mb∈S):kh w' mb m:=by
 obtain⟨n,D,⟨es,ck,hb,hr⟩,hn,hD⟩:=h.has
 exact⟨n,D,⟨es,ck,hk.heap hb hS,hr⟩,hn,hD⟩
theorem kh.below{w w':World}{mb:Nat}{m:List (ByteArray×Nat)}(h:kh w mb m)(hb:Below w.heap.size w w'):kh w' mb m:=h.kept (Kb.bG hb []) (by simp)
theorem kh.block{w:World}{mb:Nat}{m:List (ByteArray×Nat)}(h:kh w mb m):∃es ck,w.heap[mb]?=some (.map es ck):=by
 obtain⟨n,D,⟨es,ck,hb,hr⟩,hn,hD⟩:=h.has
 exact⟨es,ck,hb⟩
theorem kh.look{w:World}{mb:Nat}{m:List (ByteArray×Nat)}(h:kh w mb m){p:ByteArray}{g:Nat}(hl:Ax.look m p=some g)(hp:p.size≤1000000){t e:TypeId}(ht:Tryz.prog.underlying t=some (.map 9 e))(hz:(zeroValue e).run Tryz.prog w=.ok (.pointer none) w):
 (Instr.lookup t (.map (some mb)) (.string p) false).run Tryz.prog w=.ok (.pointer (some ⟨g,0,none⟩)) w:=by
 obtain⟨n,D,aj,hn,hD⟩:=h.has
 obtain⟨v,ps,OE,hv⟩:=aj.lookup Tryz.gD ht hz (zd:=.lit (.int .i64 (-1))) (zp:=[]) rfl (key:=.string p) (kl:=aY p) (keyOf_string_mk Tryz.underlying9 (by unfold maxLen;omega))
 rw[(hD p).2 g hl]at hv
 rw[OE,oz hv]
structure HT where
 nm:ByteArray
 pl:Nat
 g:Nat
 rd:Option Addr
 rc:Nat
 cd:Option Addr
 cc:Nat
 L:List (List ByteArray)
 C:List Nat
def HT.ok(w:World)(t:HT):Prop:=eV w t.g t.nm t.pl t.rd t.rc t.cd t.cc t.L t.C
def HT.bU(t:HT):List Nat:=kT t.g t.rd t.rc t.cd t.cc t.L.length
def HT.pk(t:HT):ByteArray×Nat:=(t.nm,t.g)
def HT.key(t:HT):ByteArray×Nat×Nat:=(t.nm,t.g,t.pl)
theorem HT.ok.types{w:World}{t:HT}(h:t.ok w){b:Nat}(hb:b∈t.bU):∃cur T,w.heap[b]?=some (.cells cur T (0,0))∧(T=117∨T=119∨T=3):=by
 unfold HT.bU kT at hb
 rcases List.mem_cons.1 hb with rfl | hb
 · exact⟨_,_,h.ot.da,.inl rfl⟩
 · rcases List.mem_append.1 hb with hb | hb
   · rw[Option.mem_toList]at hb
     obtain⟨cur,e⟩:=ay h.ot.rows.own hb
     exact⟨cur,_,e,.inr (.inl rfl)⟩
   · rw[Option.mem_toList]at hb
     obtain⟨cur,e⟩:=ay h.jG hb
     exact⟨cur,_,e,.inr (.inr rfl)⟩
def qt(f:En.bE):List Value:=.string f.1::f.2.map .string
def cm(l:List En.bE):List Value:=l.flatMap qt
def Vd(l:List En.bE):Prop:=∀f,f∈l→f.2.length=3
structure mP(w:World)(sb mb:Nat)(rv:Value)(fd:Option Addr)(fc:Nat)(T:List HT)(s:En.cU En.bE):Prop where
 da:w.heap[sb]?=some (.cells #[rv,.map (some mb),.slice fd s.found.length fc] 322 (0,0))
 map:kh w mb (T.map HT.pk)
 CM:w.ownsRow 0 325 4 (.slice fd s.found.length fc) s.found.length (cm s.found)
 bX:∀t,t∈T→t.ok w
 apart:T.Pairwise fun a b=>∀x,x∈a.bU→¬x∈b.bU
 names:(T.map HT.nm).Nodup
 rows:∀t,t∈T→∀r,r∈t.L↔(t.nm,r)∈s.found
 vq:∀t,t∈T→t.C=t.L.map fun r=>s.count (t.nm,r)
 zero:∀f,¬f∈s.found→s.count f=0
 three:Vd s.found
 short:∀t,t∈T→t.nm.size≤1000000
def dC(sb:Nat)(fd:Option Addr)(fc n:Nat)(T:List HT):List Nat:=sb::((Value.ownBlock (.slice fd n fc)).toList++T.flatMap HT.bU)
theorem mP.below{w w':World}{sb mb:Nat}{rv:Value}{fd:Option Addr}{fc:Nat}{T:List HT}{s:En.cU En.bE}(h:mP w sb mb rv fd fc T s)(hb:Below w.heap.size w w'):mP w' sb mb rv fd fc T s:=
 ⟨by rw[hb.block sb (lt_of_heap h.da)];exact h.da,h.map.below hb,af h.CM hb,fun t ht=>(h.bX t ht).below hb,h.apart,h.names,h.rows,h.vq,h.zero,h.three,h.short⟩
theorem rQ:∀{T:List HT} (_:(T.map HT.nm).Nodup) {t:HT},t∈T→Ax.look (T.map HT.pk) t.nm=some t.g
 | [],_,t,h=>by cases h
 | a::T,hn,t,h=>by
  rw[List.map_cons,List.nodup_cons]at hn
  show Ax.look ((a.nm,a.g)::T.map HT.pk) t.nm=_
  rw[eD]
  rcases List.mem_cons.1 h with rfl | h
  · rw[if_pos rfl]
  · have:¬a.nm=t.nm:=fun e=>hn.1 (by rw[e];exact List.mem_map.2 ⟨t,h,rfl⟩)
    rw[if_neg this]
    exact rQ hn.2 h
theorem lA{w:World}{sb mb:Nat}{rv:Value}{fd:Option Addr}{fc:Nat}{T:List HT}{s:En.cU En.bE}(h:mP w sb mb rv fd fc T s){b:Nat}(hb:b∈dC sb fd fc s.found.length T):∃cur U,w.heap[b]?=some (.cells cur U (0,0))∧(U=322∨U=325∨U=117∨U=119∨U=3):=by
 unfold dC at hb
 rcases List.mem_cons.1 hb with rfl | hb
 · exact⟨_,_,h.da,.inl rfl⟩
 · rcases List.mem_append.1 hb with hb | hb
   · rw[Option.mem_toList]at hb
     obtain⟨cur,e⟩:=ay h.CM hb
     exact⟨cur,_,e,.inr (.inl rfl)⟩
   · obtain⟨t,ht,hb⟩:=List.mem_flatMap.1 hb
     obtain⟨cur,U,e,hU⟩:=(h.bX t ht).types hb
     exact⟨cur,U,e,.inr (.inr hU)⟩
theorem HT.ok.kept{w w':World}{S:List Nat}{t:HT}(h:t.ok w)(hk:Kb S w w')(hS:∀b,b∈t.bU→¬b∈S):t.ok w':=eV.kept h hk hS
theorem HT.ok.lt{w:World}{t:HT}(h:t.ok w){b:Nat}(hb:b∈t.bU):b<w.heap.size:=by
 obtain⟨cur,T,e,_⟩:=h.types hb
 exact lt_of_heap e
def HT.held(t:HT)(rd:Option Addr)(rc:Nat)(cd:Option Addr)(cc:Nat)(r:List ByteArray)(n:Nat):HT:=⟨t.nm,t.pl,t.g,rd,rc,cd,cc,Tb.put t.L r,Tb.p8 t.L t.C r n⟩
theorem HT.Kt{w:World}{t:HT}{rd:Option Addr}{rc:Nat}{cd:Option Addr}{cc:Nat}{r:List ByteArray}{n:Nat}(h1:cn w (.slice t.rd t.L.length t.rc) (.slice rd (Tb.put t.L r).length rc))(h2:cn w (.slice t.cd t.L.length t.cc) (.slice cd (Tb.put t.L r).length cc)){b:Nat}(hb:b∈(t.held rd rc cd cc r n).bU):b∈t.bU∨w.heap.size≤b:=by
 unfold HT.bU kT at hb ⊢
 rcases List.mem_cons.1 hb with rfl | hb
 · exact .inl (by simp[HT.held])
 · rcases List.mem_append.1 hb with hb | hb
   · rw[Option.mem_toList]at hb
     rcases h1 b hb with e | e
     · exact .inl (by simp only[List.mem_cons,List.mem_append,Option.mem_toList];exact .inr (.inl e))
     · exact .inr e
   · rw[Option.mem_toList]at hb
     rcases h2 b hb with e | e
     · exact .inl (by simp only[List.mem_cons,List.mem_append,Option.mem_toList];exact .inr (.inr e))
     · exact .inr e
abbrev iM(a b:HT):Prop:=∀x,x∈a.bU→¬x∈b.bU
theorem iM.symm{a b:HT}(h:iM a b):iM b a:=fun x h1 h2=>h x h2 h1
theorem Ki{w w1:World}{A B:List HT}{t t':HT}(cB:∀u,u∈A++t::B→u.ok w)(Ff:(A++t::B).Pairwise iM)(hk:Kb t.bU w w1)(oh:t'.ok w1)(hf:∀b,b∈t'.bU→b∈t.bU∨w.heap.size≤b):
 (∀u,u∈A++t'::B→u.ok w1)∧(A++t'::B).Pairwise iM:=by
 rw[List.pairwise_append,List.pairwise_cons]at Ff
 obtain⟨p1,⟨p2,p3⟩,p4⟩:=Ff
 have hA:∀a,a∈A→iM a t:=fun a ha=>p4 a ha t (by simp)
 have key:∀u,u.ok w→iM u t→iM u t':=by
  intro u hu hut x hx TZ
  rcases hf x TZ with e | e
  · exact hut x hx e
  · have:=hu.lt hx
    omega
 refine⟨?_, ?_⟩
 · intro u hu
   rcases List.mem_append.1 hu with hu | hu
   · exact(cB u (by simp[hu])).kept hk (fun b hb=>hA u hu b hb)
   · rcases List.mem_cons.1 hu with rfl | hu
     · exact oh
     · exact(cB u (by simp[hu])).kept hk (fun b hb=>(p2 u hu).symm b hb)
 · rw[List.pairwise_append,List.pairwise_cons]
   refine⟨p1,⟨?_,p3⟩, ?_⟩
   · intro b hb
     exact(key b (cB b (by simp[hb])) (p2 b hb).symm).symm
   · intro a ha b hb
     rcases List.mem_cons.1 hb with rfl | hb
     · exact key a (cB a (by simp[ha])) (hA a ha)
     · exact p4 a ha b (by simp[hb])
structure Ou(w:World)(sb mb:Nat)(rv:Value)(fd:Option Addr)(fc:Nat)(T:List HT)(F:List En.bE)(s:En.cU En.bE):Prop where
 da:w.heap[sb]?=some (.cells #[rv,.map (some mb),.slice fd F.length fc] 322 (0,0))
 map:kh w mb (T.map HT.pk)
 CM:w.ownsRow 0 325 4 (.slice fd F.length fc) F.length (cm F)
 bX:∀t,t∈T→t.ok w
 apart:T.Pairwise iM
 names:(T.map HT.nm).Nodup
 rows:∀t,t∈T→∀r,r∈t.L↔(t.nm,r)∈s.found
 vq:∀t,t∈T→t.C=t.L.map fun r=>s.count (t.nm,r)
 zero:∀f,¬f∈s.found→s.count f=0
 three:Vd s.found
 short:∀t,t∈T→t.nm.size≤1000000
theorem vX{s:En.cU En.bE}{f g:En.bE}{n:Nat}:g∈(En.hold s f n).found↔g=f∨g∈s.found:=by
 unfold En.hold
 simp only
 split
 · rename_i h
   constructor
   · exact .inr
   · rintro(rfl | h2)
     · exact h
     · exact h2
 · rw[List.mem_append,List.mem_singleton]
   exact Or.comm
theorem mP.mid{w W w1:World}{sb mb:Nat}{rv:Value}{fd:Option Addr}{fc:Nat}{A B:List HT}{t:HT}{s:En.cU En.bE}(h:mP w sb mb rv fd fc (A++t::B) s)(hW:Below w.heap.size w W)
 {rd':Option Addr}{rc':Nat}{cd':Option Addr}{cc':Nat}{r:List ByteArray}{n:Nat}(hr:r.length=3)
 (oh:(t.held rd' rc' cd' cc' r n).ok w1)(hk:Kb t.bU W w1)(h1:cn W (.slice t.rd t.L.length t.rc) (.slice rd' (Tb.put t.L r).length rc'))(h2:cn W (.slice t.cd t.L.length t.cc) (.slice cd' (Tb.put t.L r).length cc')):
 Ou w1 sb mb rv fd fc (A++t.held rd' rc' cd' cc' r n::B) s.found (En.hold s (t.nm,r) n)∧Kb t.bU w w1∧(∀b,b∈(t.held rd' rc' cd' cc' r n).bU→b∈t.bU∨w.heap.size≤b):=by
 have sK:=h.below hW
 have FB:t∈A++t::B:=by simp
 have VK:=sK.bX t FB
 have jO:∀b,b∈t.bU→∀cur U,W.heap[b]?=some (.cells cur U (0,0))→(U=117∨U=119∨U=3):=by
  intro b hb cur U e
  obtain⟨oJ,U',e',hU⟩:=VK.types hb
  rw[e]at e'
  simp only[Option.some.injEq,Obj.cells.injEq]at e'
  rw[e'.2.1]
  exact hU
 have hf:∀b,b∈(t.held rd' rc' cd' cc' r n).bU→b∈t.bU∨W.heap.size≤b:=fun b hb=>HT.Kt h1 h2 hb
 obtain⟨cB,Ff⟩:=Ki sK.bX sK.apart hk oh hf
 have vz:=h.names
 rw[List.map_append,List.map_cons,List.nodup_append,List.nodup_cons]at vz
 have N8:∀u,u∈A∨u∈B→u.nm≠t.nm:=by
  rintro u (hu | hu) e
  · exact vz.2.2 u.nm (List.mem_map.2 ⟨u,hu,rfl⟩) t.nm (by simp) e
  · exact vz.2.1.1 (by rw[←e];exact List.mem_map.2 ⟨u,hu,rfl⟩)
 have FR:∀u,u∈A++t.held rd' rc' cd' cc' r n::B→u=t.held rd' rc' cd' cc' r n∨(u∈A++t::B∧u.nm≠t.nm):=by
  intro u hu
  rcases List.mem_append.1 hu with hu | hu
  · exact .inr ⟨by simp[hu],N8 u (.inl hu)⟩
  · rcases List.mem_cons.1 hu with rfl | hu
    · exact .inl rfl
    · exact .inr ⟨by simp[hu],N8 u (.inr hu)⟩
 refine⟨⟨?_, ?_, ?_,cB,Ff, ?_, ?_, ?_, ?_, ?_, ?_⟩,(Kb.bG hW _).trans hk,fun b hb=> ?_⟩
 · refine hk.heap sK.da ?_
   intro hc
   have:=jO sb hc _ _ sK.da
   rcases this with e | e | e<;>cases e
 · have e:(A++t.held rd' rc' cd' cc' r n::B).map HT.pk=(A++t::B).map HT.pk:=by simp[HT.pk,HT.held]
   rw[e]
   refine sK.map.kept hk ?_
   intro hc
   obtain⟨es,ck,eb⟩:=sK.map.block
   obtain⟨cur,U,e2,_⟩:=VK.types hc
   rw[eb]at e2
   cases e2
 · refine hk.row sK.CM ?_
   intro b hb hc
   obtain⟨cur,e⟩:=ay sK.CM hb
   have:=jO b hc _ _ e
   rcases this with e | e | e<;>cases e
 · have e:(A++t.held rd' rc' cd' cc' r n::B).map HT.nm=(A++t::B).map HT.nm:=by simp[HT.held]
   rw[e]
   exact h.names
 · intro u hu x
   rw[vX]
   rcases FR u hu with rfl | ⟨hu,cL⟩
   · show x∈Tb.put t.L r↔_
     rw[Tb.sA,h.rows t FB]
     constructor
     · rintro(rfl | e)
       · exact .inl rfl
       · exact .inr e
     · rintro(e | e)
       · exact .inl (by simpa [HT.held]using e)
       · exact .inr e
   · rw[h.rows u hu]
     constructor
     · exact .inr
     · rintro(e | e)
       · simp only[Prod.mk.injEq]at e
         exact absurd e.1 cL
       · exact e
 · intro u hu
   rcases FR u hu with rfl | ⟨hu,cL⟩
   · show Tb.p8 t.L t.C r n=(Tb.put t.L r).map _
     rw[h.vq t FB,Tb.Qx (VK.ot.ord) r n _ (fun hc=>h.zero _ (fun e=>hc ((h.rows t FB r).2 e)))]
     refine List.map_congr_left fun x _=> ?_
     show _=(En.hold s (t.nm,r) n).count (t.nm,x)
     rw[En.iO]
     by_cases e:x=r
     · subst e;simp
     · simp[e]
   · rw[h.vq u hu]
     refine List.map_congr_left fun x _=> ?_
     rw[En.iO,if_neg (by simp only[Prod.mk.injEq,not_and];exact fun e=>absurd e cL),Nat.add_zero]
 · intro g hg
   rw[En.iO]
   have h3:¬g=(t.nm,r)∧¬g∈s.found:=by
    constructor
    · intro e;exact hg (vX.2 (.inl e))
    · intro e;exact hg (vX.2 (.inr e))
   rw[if_neg h3.1,Nat.add_zero]
   exact h.zero g h3.2
 · intro g hg
   rcases vX.1 hg with rfl | hg
   · exact hr
   · exact h.three g hg
 · intro u hu
   rcases FR u hu with rfl | ⟨hu,_⟩
   · exact h.short t FB
   · exact h.short u hu
 · rcases hf b hb with e | e
   · exact .inl e
   · exact .inr (Nat.le_trans hW.size e)
end
/- Tables of what was given; maps of tables, as they are made. -/
section
open Go.RowKit Go.Maps Go.WideMaps Go.WideElems
def F0(D:DataW Unit)(m:List (ByteArray×Nat)):Prop:=
 ∀p:ByteArray,Maps.has D (aY p)=(Ax.look m p).isSome∧∀g,Ax.look m p=some g→D.atKey (aY p) (.lit (.int .i64 (-1)))=.lit (.int .i64 g)
theorem CF:F0 (.map []) []:=fun p=>⟨rfl,fun n h=>by simp[Ax.look]at h⟩
theorem Cr{D:DataW Unit}{m:List (ByteArray×Nat)}(h:F0 D m)(hD:IsMap D)(p:ByteArray)(n:Nat):F0 (D.put (aY p) (.lit (.int .i64 n))) ((p,n)::m):=by
 intro q
 rw[eD]
 by_cases e:p=q
 · subst e
   rw[if_pos rfl,has_put_same hD (k:=aY p) trivial,atKey_put_same hD (k:=aY p) trivial]
   exact⟨rfl,fun k hk=>by simp at hk;rw[hk]⟩
 · have cL:aY q≠aY p:=fun h2=>e (ku h2).symm
   rw[if_neg e,has_put_other cL,atKey_put_other cL]
   exact h q
theorem kh.of{w:World}{mb n:Nat}{D:DataW Unit}{m:List (ByteArray×Nat)}(h:w.ownsMap Tryz.prog 9 cS mb n D)(hn:n≤1000000)(hD:F0 D m):kh w mb m:=⟨n,D,h,hn,hD⟩
theorem Kk:∀{m:List (ByteArray×Nat)} {p:ByteArray},¬p∈m.map Prod.fst→Ax.look m p=none
 | [],_,_=>rfl
 | (q,n)::m,p,h=>by
  rw[eD]
  simp only[List.map_cons,List.mem_cons,not_or]at h
  rw[if_neg (fun e=>h.1 e.symm)]
  exact Kk h.2
structure GT where
 nm:ByteArray
 pl:Nat
 g:Nat
 rd:Option Addr
 rc:Nat
 L:List (List ByteArray)
def GT.ok(w:World)(t:GT):Prop:=cl w t.g 125 t.nm t.pl t.rd t.rc t.L []
def GT.bU(t:GT):List Nat:=t.g::(Value.ownBlock (.slice t.rd t.L.length t.rc)).toList
def GT.key(t:GT):ByteArray×Nat:=(t.nm,t.g)
theorem GT.ok.types{w:World}{t:GT}(h:t.ok w){b:Nat}(hb:b∈t.bU):∃cur T,w.heap[b]?=some (.cells cur T (0,0))∧(T=125∨T=119):=by
 unfold GT.bU at hb
 rcases List.mem_cons.1 hb with rfl | hb
 · exact⟨_,_,cl.da h,.inl rfl⟩
 · rw[Option.mem_toList]at hb
   obtain⟨cur,e⟩:=ay (cl.rows h).own hb
   exact⟨cur,_,e,.inr rfl⟩
theorem GT.ok.lt{w:World}{t:GT}(h:t.ok w){b:Nat}(hb:b∈t.bU):b<w.heap.size:=by
 obtain⟨cur,T,e,_⟩:=h.types hb
 exact lt_of_heap e
theorem GT.ok.kept{w w':World}{S:List Nat}{t:GT}(h:t.ok w)(hk:Kb S w w')(hS:∀b,b∈t.bU→¬b∈S):t.ok w':=
 cl.kept h hk (hS t.g (by simp[GT.bU])) (fun b hb=>hS b (by simp[GT.bU,hb]))
theorem GT.ok.below{w w':World}{t:GT}(h:t.ok w)(hb:Below w.heap.size w w'):t.ok w':=cl.below h hb
abbrev GH(a b:GT):Prop:=∀x,x∈a.bU→¬x∈b.bU
structure jY(w:World)(mb:Nat)(G:List GT):Prop where
 map:kh w mb (G.map GT.key)
 bX:∀t,t∈G→t.ok w
 apart:G.Pairwise GH
 names:(G.map GT.nm).Nodup
 short:∀t,t∈G→t.nm.size≤1000000
def ev(mb:Nat)(G:List GT):List Nat:=mb::G.flatMap GT.bU
theorem jY.below{w w':World}{mb:Nat}{G:List GT}(h:jY w mb G)(hb:Below w.heap.size w w'):jY w' mb G:=⟨h.map.below hb,fun t ht=>(h.bX t ht).below hb,h.apart,h.names,h.short⟩
theorem jY.kept{w w':World}{S:List Nat}{mb:Nat}{G:List GT}(h:jY w mb G)(hk:Kb S w w')(hS:∀b,b∈ev mb G→¬b∈S):jY w' mb G:=by
 refine⟨h.map.kept hk (hS mb (by simp[ev])),fun t ht=>(h.bX t ht).kept hk fun b hb=>hS b ?_,h.apart,h.names,h.short⟩
 unfold ev
 simp only[List.mem_cons,List.mem_flatMap]
 exact .inr ⟨t,ht,hb⟩
theorem jY.lt{w:World}{mb:Nat}{G:List GT}(h:jY w mb G){b:Nat}(hb:b∈ev mb G):b<w.heap.size:=by
 unfold ev at hb
 rcases List.mem_cons.1 hb with rfl | hb
 · obtain⟨es,ck,e⟩:=h.map.block
   exact lt_of_heap e
 · obtain⟨t,ht,hb⟩:=List.mem_flatMap.1 hb
   exact(h.bX t ht).lt hb
theorem iT:∀{G:List GT} (_:(G.map GT.nm).Nodup) {t:GT},t∈G→Ax.look (G.map GT.key) t.nm=some t.g
 | [],_,t,h=>by cases h
 | a::G,hn,t,h=>by
  rw[List.map_cons,List.nodup_cons]at hn
  show Ax.look ((a.nm,a.g)::G.map GT.key) t.nm=_
  rw[eD]
  rcases List.mem_cons.1 h with rfl | h
  · rw[if_pos rfl]
  · have:¬a.nm=t.nm:=fun e=>hn.1 (by rw[e];exact List.mem_map.2 ⟨t,h,rfl⟩)
    rw[if_neg this]
    exact iT hn.2 h
end
/- facts.Given.Come. -/
section
open Go.RowKit
theorem Da(w:World)(g:Nat)(nm:ByteArray)(pl:Nat)(rd:Option Addr)(rc:Nat)(L:List (List ByteArray))(a b c:ByteArray)(h:cl w g 125 nm pl rd rc L [])(hL:L.length≤999999):
 Calls Tryz.prog 127 #[.pointer (some ⟨g,0,none⟩),.agg #[.string a,.string b,.string c]] w fun e w'=>∃rd' rc',
  e=.returned (.tuple #[])∧cl w' g 125 nm pl rd' rc' (Tb.put L [a,b,c]) []∧
   Kb (g::(Value.ownBlock (.slice rd L.length rc)).toList) w w'∧cn w (.slice rd L.length rc) (.slice rd' (Tb.put L [a,b,c]).length rc'):=by
 obtain⟨w0,di⟩:∃w0,w0=w.alloc (.cells #[.string a,.string b,.string c] 119):=⟨_,rfl⟩
 have bK:Below w.heap.size w w0:=by rw[di];exact(Below.refl _ _).alloc (Nat.le_refl _) _
 have lY:w0.heap[w.heap.size]?=some (.cells #[.string a,.string b,.string c] 119 (0,0)):=by rw[di];exact heap_alloc_new w _
 have t0:w0.cell? ⟨w.heap.size,0,none⟩=some (.string a):=by rw[cell_of_row _ _ 0 _ _ _ lY];rfl
 have t1:w0.cell? ⟨w.heap.size,1,none⟩=some (.string b):=by rw[cell_of_row _ _ 1 _ _ _ lY];rfl
 have t2:w0.cell? ⟨w.heap.size,2,none⟩=some (.string c):=by rw[cell_of_row _ _ 2 _ _ _ lY];rfl
 have h0:=h.below bK
 have hp:Hid (∀W,Below w0.heap.size w0 W→Calls Tryz.prog 196 #[.pointer (some ⟨g,0,none⟩),.agg #[.string a,.string b,.string c]] W fun e w1=>∃rd' rc' x y,
  e=.returned (.tuple #[x,y])∧Hid (cl w1 g 125 nm pl rd' rc' (Tb.put L [a,b,c]) []∧
   Kb (g::(Value.ownBlock (.slice rd L.length rc)).toList) w w1∧cn w (.slice rd L.length rc) (.slice rd' (Tb.put L [a,b,c]).length rc'))):=by
  intro W hW
  refine(Jl W g _ nm pl rd rc L _ a b c (h0.below hW) hL).mono ?_
  rintro e w1 ⟨rd',rc',rfl,q1,q2,q3⟩
  have sK:Below w.heap.size w W:=bK.trans (hW.mono bK.size)
  exact⟨rd',rc',_,_,rfl,q1,(Kb.bG sK _).trans q2,q3.mono sK.size⟩
 have mh:=lt_of_heap h.da
 clear h h0 lY
 go_enter Tryz.func127,Tryz.ntmps127
 go_wp2_with fail
 rw[←di]
 clear di
 go_region_with (go_at_call 196;refine(hp.out _ (by exact(Below.refl _ _).drew)).mono ?_;rintro e w1 ⟨rd',rc',x,y,rfl,HE⟩)
 all_goals
  go_end0
  exact⟨rd',rc',rfl,HE.out.1,HE.out.2.1,HE.out.2.2⟩
end
/- The predicates of a program: in the order of their names, each once. No program here. -/
namespace Pd
open Tb
abbrev Pr:=ByteArray×Nat
def uT(acc:List Pr)(x:Pr):List Pr:=if acc.getLast?=some x then acc else acc++[x]
def mw(l:List Pr):List Pr:=l.foldl uT []
theorem rR(l:List Pr)(x:Pr):mw (l++[x])=uT (mw l) x:=by simp[mw]
theorem FX(acc:List Pr)(x:Pr):(uT acc x).getLast?=some x:=by
 unfold uT
 split
 · assumption
 · simp
theorem OG(l:List Pr)(x:Pr):(mw (l++[x])).getLast?=some x:=by rw[rR];exact FX _ _
theorem LC{acc:List Pr}{x y:Pr}:y∈uT acc x↔y∈acc∨y=x:=by
 unfold uT
 split
 · rename_i h
   constructor
   · exact .inl
   · rintro(h2 | rfl)
     · exact h2
     · exact List.mem_of_getLast? h
 · simp
theorem Ef{p:List Pr→Prop}(h0:p [])(h1:∀l x,p l→p (l++[x]))(l:List Pr):p l:=by
 rw[←List.reverse_reverse l]
 induction l.reverse with
 | nil=>exact h0
 | cons x t ih=>rw[List.reverse_cons];exact h1 _ _ ih
theorem BK(l:List Pr){y:Pr}:y∈mw l↔y∈l:=by
 induction l using Ef with
 | h0=>rfl
 | h1 l x ih=>rw[rR,LC,ih];simp
theorem jo(D:List Pr){m:Nat}(hm:m<D.length)(h0:0<m):mw (D.take (m+1))=if D[m]=D[m-1]then mw (D.take m)else mw (D.take m)++[D[m]]:=by
 have e:D.take (m+1)=D.take m++[D[m]]:=by rw[List.take_add_one,List.getElem?_eq_getElem hm];rfl
 have e1:D.take m=D.take (m-1)++[D[m-1]]:=by
  have:=List.take_add_one (l:=D) (i:=m-1)
  rw[show m-1+1=m by omega,List.getElem?_eq_getElem (by omega)]at this
  exact this
 have hl:(mw (D.take m)).getLast?=some D[m-1]:=by rw[e1];exact OG _ _
 rw[e,rR,uT,hl]
 by_cases h:D[m-1]=D[m]
 · rw[if_pos (by rw[h]),if_pos h.symm]
 · rw[if_neg (by simpa using h),if_neg (fun k=>h k.symm)]
theorem Cp(D:List Pr)(h:0<D.length):mw (D.take 1)=[D[0]]:=by
 cases D with
 | nil=>simp at h
 | cons x D=>rfl
def lX(l:List Pr):Prop:=l.Pairwise fun a b=>slt a.1 b.1=true
theorem mV:∀{a b:List Pr},lX a→lX b→(∀x,x∈a↔x∈b)→a=b
 | [],[],_,_,_=>rfl
 | [],y::b,_,_,h=>by have:=(h y).2 (by simp);simp at this
 | x::a,[],_,_,h=>by have:=(h x).1 (by simp);simp at this
 | x::a,y::b,ha,hb,h=>by
  obtain⟨Wg,Xg⟩:=List.pairwise_cons.1 ha
  obtain⟨bk,cM⟩:=List.pairwise_cons.1 hb
  have e:x=y:=by
   rcases List.mem_cons.1 ((h x).1 (by simp))with e | e
   · exact e
   · rcases List.mem_cons.1 ((h y).2 (by simp))with e2 | e2
     · exact e2.symm
     · have h1:=bk x e
       have h2:=Wg y e2
       rw[wV h1]at h2
       cases h2
  subst e
  have YV:∀{z:Pr},slt x.1 z.1=true→z≠x:=by
   rintro z hz rfl
   rw[nP]at hz
   cases hz
  rw[mV Xg cM (fun z=> ?_)]
  constructor
  · intro hz
    rcases List.mem_cons.1 ((h z).1 (by simp[hz]))with e | e
    · exact absurd e (YV (Wg z hz))
    · exact e
  · intro hz
    rcases List.mem_cons.1 ((h z).2 (by simp[hz]))with e | e
    · exact absurd e (YV (bk z hz))
    · exact e
def One(l:List Pr):Prop:=∀a,a∈l→∀b,b∈l→a.1=b.1→a=b
theorem QB(l:List Pr)(hs:l.Pairwise fun a b=>slt b.1 a.1=false)(h1:One l):lX (mw l):=by
 induction l using Ef with
 | h0=>exact List.Pairwise.nil
 | h1 l x ih=>
  rw[List.pairwise_append]at hs
  obtain⟨s1,_,s3⟩:=hs
  have hx:∀y,y∈l→slt x.1 y.1=false:=fun y hy=>s3 y hy x (by simp)
  have YE:=ih s1 (fun a ha b hb=>h1 a (by simp[ha]) b (by simp[hb]))
  rw[rR,uT]
  split
  · exact YE
  · rename_i hl
    unfold lX
    rw[List.pairwise_append]
    refine⟨YE,List.pairwise_singleton _ _, ?_⟩
    intro y hy z hz
    simp only[List.mem_singleton]at hz
    subst hz
    have Ui:=(BK l).1 hy
    cases hc:slt y.1 z.1 with
    | true=>rfl
    | false=>
     exfalso
     have e1:=vP hc (hx y Ui)
     have e2:=h1 y (by simp[Ui]) z (by simp) e1
     subst e2
     obtain⟨q,hq⟩:∃q,(mw l).getLast?=some q:=by
      cases h:(mw l).getLast? with
      | none=>rw[List.getLast?_eq_none_iff]at h;rw[h]at hy;simp at hy
      | some q=>exact⟨q,rfl⟩
     have cL:q≠y:=fun e=>hl (by rw[hq,e])
     have Tr:mw l=(mw l).dropLast++[q]:=by
      have hn:mw l≠[]:=fun e=>by rw[e]at hy;simp at hy
      have:=List.dropLast_concat_getLast hn
      have e3:(mw l).getLast hn=q:=by rw[List.getLast?_eq_some_getLast hn]at hq;simpa using hq
      rw[e3]at this
      exact this.symm
     have hyd:y∈(mw l).dropLast:=by
      rw[Tr]at hy
      rcases List.mem_append.1 hy with e | e
      · exact e
      · simp only[List.mem_singleton]at e;exact absurd e.symm cL
     unfold lX at YE
     rw[Tr,List.pairwise_append]at YE
     have k1:=YE.2.2 y hyd q (by simp)
     have k2:=hx q ((BK l).1 (List.mem_of_getLast? hq))
     rw[k1]at k2
     cases k2
end Pd
/- strings.Builder's String; plainForm. -/
section
open Go.RowKit
theorem below_freeze{B:Nat}{a w:World}(h:Below B a w){p:Addr}(hp:B≤p.block)(n:Nat):Below B a (w.freeze p n):=by
 refine h.trans ⟨?_, ?_, ?_, ?_, ?_⟩
 all_goals unfold World.freeze
 all_goals split
 all_goals first | rfl | exact Nat.le_refl _ | skip
 · simp
 · intro k _;rfl
 · intro k hk
   simp only[Array.getElem?_modify]
   rw[if_neg (by omega)]
theorem Dw(B b:Nat)(l:List UInt8)(w:World)(h:Q9 B w b l)(Qq:l≠[]):
 Calls Tryz.prog 185 #[.pointer (some ⟨b,0,none⟩)] w fun e w'=>e=.returned (.string ⟨l.toArray⟩)∧Below B w w':=by
 obtain⟨p,v,hp,hb,aj,_⟩:=h
 have hl:l.length≠0:=by simpa using Qq
 have bA:=fun g hg=>World.ownsRow.cells aj (g:=g) hg
 obtain⟨g,cap,cur,rfl,Oc,hg,VU,Ca,cr⟩:∃g cap cur,v=.slice (some ⟨g,0,none⟩) l.length cap∧B≤g∧w.heap[g]?=some (.cells cur 5 (0,0))∧l.length≤cap∧cap≤maxLen∧cur.size=cap*1:=by
  rcases aj.2 with⟨_,hz⟩ | ⟨g,cap,cur,hv,h1,h2,h3,h4,h5,_⟩
  · exact absurd hz hl
  · exact⟨g,cap,cur,hv,h1,h2,h3,h4,h5⟩
 have c1:w.drew.cell? ⟨b,1,none⟩=some (.slice (some ⟨g,0,none⟩) l.length cap):=by
  have:w.drew.heap[b]?=some (.cells #[p,.slice (some ⟨g,0,none⟩) l.length cap] 314 (0,0)):=hb
  rw[ab this];rfl
 have hSD:(Builtin.unsafeSliceData_ #[63] 351 #[.slice (some ⟨g,0,none⟩) l.length cap]).run Tryz.prog w.drew=.ok (.pointer (some ⟨g,0,none⟩)) w.drew:=
  Lib.run_unsafeSliceData_row _ _ _ _ _ _ (by omega)
 have hUS:(Builtin.unsafeString_ #[351,3] 9 #[.pointer (some ⟨g,0,none⟩),.int .i64 l.length]).run Tryz.prog w.drew=.ok (.string ⟨l.toArray⟩) (w.drew.freeze ⟨g,0,none⟩ l.length):=by
  refine Lib.run_unsafeString_row w.drew 351 3 9 5 Tryz.underlying351 Tryz.Ad g cur.size ?_ l Qq (by omega) (by unfold maxLen at Ca;omega) ?_
  · have W9:w.drew.heap[g]?=some (.cells cur 5 (0,0)):=hg
    simp[World.shape?,W9]
  · intro j x hx
    exact bA g rfl j (.int .u8 x.toNat) (by simp[Lib.byteCells,hx])
 have od:Hid (Below B w (w.drew.freeze ⟨g,0,none⟩ l.length)):=below_freeze ((Below.refl B w).drew) (p:=⟨g,0,none⟩) Oc _
 clear bA aj hb hg
 go_enter Tryz.func185,Tryz.ntmps185
 go_wp2_with fail
 go_region
 all_goals (go_wp2_with fail)
 all_goals go_ret
 all_goals (exact⟨rfl,od.out⟩)
theorem E6(B b:Nat)(w:World)(h:Q9 B w b []):
 Calls Tryz.prog 185 #[.pointer (some ⟨b,0,none⟩)] w fun e w'=>e=.returned (.string ⟨#[]⟩)∧Below B w w':=by
 obtain⟨p,v,hp,hb,aj,Ig⟩:=h
 obtain rfl:=Ig rfl
 have c1:w.drew.cell? ⟨b,1,none⟩=some (.slice none 0 0):=by
  have:w.drew.heap[b]?=some (.cells #[p,.slice none 0 0] 314 (0,0)):=hb
  rw[ab this];rfl
 have hSD:(Builtin.unsafeSliceData_ #[63] 351 #[.slice none 0 0]).run Tryz.prog w.drew=.ok (.pointer none) w.drew:=rfl
 have hUS:(Builtin.unsafeString_ #[351,3] 9 #[.pointer none,.int .i64 0]).run Tryz.prog w.drew=.ok (.string ⟨#[]⟩) w.drew:=Lib.run_unsafeString_none _ _ _ _ _
 clear aj Ig hb
 go_enter Tryz.func185,Tryz.ntmps185
 go_wp2_with fail
 go_region
 all_goals (go_wp2_with fail)
 all_goals go_ret
 all_goals (exact⟨rfl,(Below.refl B w).drew⟩)
theorem Q9.alloc{B:Nat}{w:World}{b:Nat}{l:List UInt8}(h:Q9 B w b l)(o:Obj):Q9 B (w.alloc o) b l:=by
 obtain⟨p,v,hp,hb,aj,hn⟩:=h
 exact⟨p,v,hp,(Below.heap_alloc _ _ _ (lt_of_heap hb)).trans hb,aj.alloc o,hn⟩
def dy(l:List Ax.Tok):List UInt8:=l.flatMap fun t=>t.text.data.toList
theorem p7(w:World)(bs:Nat)(td:Option Addr)(tc:Nat)(aa:List Ax.Tok)(h:w.ownsRow bs 210 3 (.slice td aa.length tc) aa.length (dk aa))(hl:aa.length≤1000)(ht:∀t,t∈aa→t.text.size≤600):
 Calls Tryz.prog 109 #[.slice td aa.length tc] w fun e w'=>e=.returned (.string ⟨(dy aa).toArray⟩)∧Below w.heap.size w w':=by
 have HT:Hid (∀t,t∈aa→t.text.size≤600):=ht
 clear ht
 go_enter Tryz.func109,Tryz.ntmps109
 go_wp2_with fail
 go_loopw [8] (fun i wr=>∃k:Nat,k≤aa.length∧i=.int .i64 k∧Q9 w.heap.size wr w.heap.size (dy (aa.take k))∧Below w.heap.size w wr∧(dy (aa.take k)).length≤600*k∧w.heap.size<wr.heap.size) (fun i _=>aa.length-(intOf i).toNat)
 case atStart=>exact⟨0,Nat.zero_le _,rfl,⟨_,_,.inl rfl,heap_alloc_new _ _,World.ownsRow_nil _ _ _ _,fun _=>rfl⟩,(Below.refl _ _).alloc (Nat.le_refl _) _,Nat.le_refl _,by simp⟩
 case round=>
  obtain⟨k,hk,rfl,Pq,aR,hlen,Nn⟩:=hrel
  by_cases aC:k<aa.length
  · have bV:=af h aR
    obtain⟨g,rfl,hg,hc,bA⟩:=ax bV (by omega)
    have c0:=bA _ _ (jX aa k aC).1
    have c1:=bA _ _ (jX aa k aC).2.1
    have c2:=bA _ _ (jX aa k aC).2.2
    have WK:=HT.out _ (List.getElem_mem aC)
    have uD:dy (aa.take (k+1))=dy (aa.take k)++(aa[k]).text.data.toList:=by
     rw[List.take_succ_eq_append_getElem aC];simp only[dy,List.flatMap_append,List.flatMap_cons,List.flatMap_nil,List.append_nil]
    have HN:Hid (dy (aa.take (k+1))=dy (aa.take k)++(aa[k]).text.data.toList):=uD
    clear uD bA bV
    generalize aa[k]=t at*
    generalize dy (aa.take k)=L at*
    go_wp2_with (go_at_call 184;refine(vu w.heap.size w.heap.size _ _ _ (Q9.alloc Pq _) (Nat.le_refl _) (by omega)).mono ?_;rintro e w1 ⟨rfl,YW,rN⟩)
    go_roundw
    case rel=>
     refine⟨k+1,by omega,by go_num,by rw[HN.out];exact YW,(aR.alloc (by omega) _).trans rN, ?_, ?_⟩
     · rw[HN.out,List.length_append]
       have:t.text.data.toList.length=t.text.size:=by simp
       omega
     · have:=rN.size;simp at this;omega
    case measure=>simp[intOf];omega
  · obtain rfl:k=aa.length:=by omega
    rw[List.take_length]at Pq
    by_cases cL:dy aa=[]
    · rw[cL]at Pq
      have HE:Hid (dy aa=[]):=cL
      clear cL hlen
      go_wp2_with (go_at_call 185;refine(E6 w.heap.size _ _ Pq).mono ?_;rintro e w1 ⟨rfl,bk⟩)
      go_ret
      exact⟨by rw[HE.out];rfl,aR.trans bk⟩
    · have HE:Hid (dy aa≠[]):=cL
      clear hlen cL
      go_wp2_with (go_at_call 185;refine(Dw w.heap.size _ _ _ Pq HE.out).mono ?_;rintro e w1 ⟨rfl,bk⟩)
      go_ret
      exact⟨rfl,aR.trans bk⟩
end
end Go.Proofs.YtdmicblafmhflaaGreatDoor
