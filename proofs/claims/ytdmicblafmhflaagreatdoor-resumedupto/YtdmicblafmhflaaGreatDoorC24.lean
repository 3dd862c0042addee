/- slices.Delete of one row. -/
import Derived.Test.YtdmicblafmhflaaGreatDoorC22
import Derived.Test.YtdmicblafmhflaaGreatDoorC23
import Derived.Deep.RegionLaw
import Derived.Test.YtdmicblafmhflaaGreatDoorC18
import Derived.Maps.RangeWalk
import Derived.Sort.MapsRangeIn
import Derived.Test.YtdmicblafmhflaaGreatDoorC19
import Derived.Deep.RegionHeld3
set_option linter.unusedSimpArgs false
set_option linter.unusedVariables false
set_option maxHeartbeats 4000000
set_option maxRecDepth 100000
namespace Go.Proofs.YtdmicblafmhflaaGreatDoor
section
open Go.RowKit
theorem cD(g:Nat){T:TypeId}:∀(vs:List Value) (o:Nat) (cur:Array Value) (w:World),w.heap[g]?=some (.cells cur T (0,0))→o+vs.length≤cur.size→
 (w.setCells g o vs).heap[g]?=some (.cells (cur.toList.take o++vs++cur.toList.drop (o+vs.length)).toArray T (0,0))∧Kb [g] w (w.setCells g o vs)
 | [],o,cur,w,h,hl=>by
  refine⟨?_,Kb.refl _ _⟩
  simpa [World.setCells]using h
 | v::vs,o,cur,w,h,hl=>by
  have h1:=aw w h o v
  rw[List.length_cons]at hl
  obtain⟨h2,h3⟩:=cD g vs (o+1) _ _ h1 (by simp;omega)
  refine⟨?_,(Kb.setCell w ⟨g,o,none⟩ v).trans h3⟩
  show((w.setCell ⟨g,o,none⟩ v).setCells g (o+1) vs).heap[g]?=_
  rw[h2]
  have e1:(cur.setIfInBounds o v).toList.take (o+1)=cur.toList.take o++[v]:=by
   rw[Array.toList_setIfInBounds,List.take_add_one,List.take_set_of_le (Nat.le_refl _),List.getElem?_set_self (by simp;omega)]
   rfl
  have e2:(cur.setIfInBounds o v).toList.drop (o+1+vs.length)=cur.toList.drop (o+(vs.length+1)):=by
   rw[Array.toList_setIfInBounds,List.drop_set_of_lt (by omega)]
   congr 1
   omega
  rw[e1,e2]
  simp
def e3:List Value:=[.string ByteArray.empty,.string ByteArray.empty,.string ByteArray.empty]
theorem IJ:(Builtin.zeroCells (Value.agg #[.string ByteArray.empty,.string ByteArray.empty,.string ByteArray.empty]).cells 1).toList=e3:=by
 have e:(Value.agg #[.string ByteArray.empty,.string ByteArray.empty,.string ByteArray.empty]).cells=#[.string ByteArray.empty,.string ByteArray.empty,.string ByteArray.empty]:=rfl
 rw[e]
 simp[Builtin.zeroCells]
 rfl
theorem yO(w:World)(g rc i j n:Nat)(xs:List Value)(hj:j=i+1)(hjn:j≤n)(au:w.ownsRow 0 119 3 (.slice (some ⟨g,0,none⟩) n rc) n xs)(lS:∀u∈xs,u.oneCell'=true)(hn:n≤1000000):
 Calls Tryz.prog 197 #[.slice (some ⟨g,0,none⟩) n rc,.int .i64 i,.int .i64 j] w fun e w'=>e=.returned (.slice (some ⟨g,0,none⟩) (i+(n-j)) rc)∧
  w'.ownsRow 0 119 3 (.slice (some ⟨g,0,none⟩) (i+(n-j)) rc) (i+(n-j)) (xs.take (i*3)++xs.drop (j*3))∧Kb [g] w w':=by
 have oP:xs.length=n*3:=au.1
 obtain⟨cur,BQ,hrc,Cg,Gs,sN⟩:∃cur:Array Value,w.heap[g]?=some (.cells cur 119 (0,0))∧n≤rc∧rc≤maxLen∧cur.size=rc*3∧cur.toList.take (n*3)=xs:=by
  rcases au.2 with⟨e,_⟩ | ⟨g',cap,cur,e,_,q1,q5,q4,q2,q3⟩
  · simp at e
  · simp only[Value.slice.injEq,Option.some.injEq,Addr.mk.injEq,and_true,true_and]at e
    obtain⟨rfl,rfl⟩:=e
    exact⟨cur,q1,q5,q4,q2,q3⟩
 obtain⟨i0,hi,ew,ev,dY⟩:=info_parts Tryz.rY
 obtain⟨news,eC⟩:∃news,news=xs.drop (j*3):=⟨_,rfl⟩
 have Hy:news.length=(n-j)*3:=by rw[eC,List.length_drop];omega
 obtain⟨W1,rL⟩:∃W1,W1=w.drew.setCells g (0+i*3) news:=⟨_,rfl⟩
 obtain⟨A,hA,Vr⟩:∃A:Addr,(if rc=j then some (⟨g,0,none⟩:Addr)else some ⟨g,j*3,none⟩)=some A∧Hid (∀t u,news[t]?=some u→w.drew.cell? (A.add t)=some u):=by
  by_cases h:rc=j
  · refine⟨⟨g,0,none⟩,by simp[h],fun t u hu=> ?_⟩
    have h0:news.length=0:=by rw[Hy];omega
    rw[List.length_eq_zero_iff.1 h0]at hu
    simp at hu
  · refine⟨⟨g,j*3,none⟩,by simp[h],fun t u hu=> ?_⟩
    have aG:=(List.getElem?_eq_some_iff.1 hu).1
    rw[eC,←sN,List.getElem?_drop,List.getElem?_take]at hu
    split at hu
    · rw[Addr.add_lit]
      show w.cell? ⟨g,j*3+t,none⟩=some u
      rw[cell_of_row _ _ _ _ _ _ BQ]
      simpa using hu
    · simp at hu
 have s1:Hid (news.length=(n-j)*3):=Hy
 have s2:Hid (∀u∈news,u.oneCell'=true):=fun u hu=>lS u (by rw[eC]at hu;exact List.mem_of_mem_drop hu)
 have s3:Hid (∀t,t<news.length→(w.drew.cell? ⟨g,0+i*3+t,none⟩).isSome=true∧w.drew.frozen? ⟨g,0+i*3+t,none⟩=false):=by
  intro t ht
  refine⟨?_, ?_⟩
  · show(w.cell? ⟨g,0+i*3+t,none⟩).isSome=true
    rw[cell_of_row _ _ _ _ _ _ BQ,Array.getElem?_eq_getElem (by omega)]
    rfl
  · show w.frozen? ⟨g,0+i*3+t,none⟩=false
    simp[World.frozen?,BQ]
 have HI:Hid (Tryz.prog.info? 119=some i0):=hi
 have HZ:Hid (i0.size=3):=ev
 have hW:Hid (W1=w.drew.setCells g (0+i*3) news):=rL
 obtain⟨q1,q2⟩:=cD g news (0+i*3) cur w.drew BQ (by omega)
 rw[←rL]at q1 q2
 obtain⟨ZS,Qx⟩:∃c:Array Value,c=(cur.toList.take (0+i*3)++news++cur.toList.drop (0+i*3+news.length)).toArray:=⟨_,rfl⟩
 rw[←Qx]at q1
 have qD:ZS.size=rc*3:=by rw[Qx];simp;omega
 have hzz:(Builtin.zeroCells (Value.agg #[.string ByteArray.empty,.string ByteArray.empty,.string ByteArray.empty]).cells (n-(i+(n-j)))).toList=e3:=by
  rw[show n-(i+(n-j))=1 by omega]
  exact IJ
 obtain⟨W2,s6⟩:∃W2,W2=W1.setRow g (ZS.toList.take ((i+(n-j))*3)++e3++ZS.toList.drop ((i+(n-j))*3+e3.length)).toArray:=⟨_,rfl⟩
 have acN:∀ty,(Builtin.clear_ #[113] ty #[.slice (some ⟨g,(i+(n-j))*3,none⟩) (n-(i+(n-j))) (rc-(i+(n-j)))]).run Tryz.prog W1=.ok (.tuple #[]) W2:=fun ty=>by
  rw[s6]
  exact nY Tryz.prog W1 113 ty 119 _ g ((i+(n-j))*3) (n-(i+(n-j))) (rc-(i+(n-j))) ZS 119 _ Tryz.underlying113 Tryz.zeroValue119 hzz q1 (by simp[e3];omega) (by intro v hv;simp[e3]at hv;rw[hv];rfl) (by omega)
 have sP:Hid (W2.ownsRow 0 119 3 (.slice (some ⟨g,0,none⟩) (i+(n-j)) rc) (i+(n-j)) (xs.take (i*3)++news)∧Kb [g] w W2):=by
  rw[s6]
  refine⟨⟨by simp[Hy,oP];omega,.inr ⟨g,rc,_,rfl,Nat.zero_le _,bz W1 g _ q1,by omega,Cg,by simp[qD,e3];omega, ?_⟩⟩,((Kb.refl [g] w).drew.trans q2).trans (Kb.setRow W1 g _)⟩
  simp only[List.toList_toArray,List.append_assoc]
  rw[List.take_append_of_le_length (by simp[qD];omega),List.take_take,Nat.min_self,Qx]
  simp only[List.toList_toArray,List.append_assoc]
  rw[←sN,←List.append_assoc,List.take_append_of_le_length (by simp[Hy,Gs];omega),List.take_of_length_le (by simp[Hy,Gs];omega),List.take_take,Nat.zero_add]
  congr 2
  omega
 rw[←eC]
 have hWg:g<W1.heap.size:=lt_of_heap q1
 have Yp:i<j:=by omega
 have cE:((i:Int)==(j:Int))=false:=beq_eq_false_iff_ne.2 (by omega)
 have HJ:Hid (j=i+1):=hj
 have hic:i≤rc:=by omega
 have hjc:j≤rc:=by omega
 clear au q1 q2 Qx qD rL s6 hzz eC Hy sN Gs hi ew ev dY oP lS BQ hj
 go_enter Tryz.func197,Tryz.ntmps197
 go_wp2_with fail
 go_region_law (refine step_append_room rfl (.tmp 22) (.tmp 25) 113 rfl 119 i0 3 Tryz.underlying113 HI.out HZ.out g 0 i rc (by simp[Act.eval,Act.put]) A (n-j) (rc-j) news (by simp[Act.eval,Act.put]) s1.out Vr.out s2.out (by omega) s3.out ?_;rw[←hW.out])
 go_wp2_with fail
 go_ret
 exact⟨rfl,sP.out⟩
end
/- facts.Given.Leave. -/
section
open Go.RowKit
open Go.Sort (grow)
theorem Kl{L:List (List ByteArray)}{r:List ByteArray}(h:Tb.jT L r=true)(ho:Tb.Ord L):Tb.pos L r<L.length∧(Tb.leave L r).length=Tb.pos L r+(L.length-(Tb.pos L r+1))∧Tb.leave L r=L.take (Tb.pos L r)++L.drop (Tb.pos L r+1):=by
 have aG:Tb.pos L r<L.length:=(List.getElem?_eq_some_iff.1 ((Tb.fM ho _).2 (Tb.dA.1 h))).1
 have e:Tb.leave L r=L.take (Tb.pos L r)++L.drop (Tb.pos L r+1):=by unfold Tb.leave;rw[h];rfl
 refine⟨aG, ?_,e⟩
 rw[e]
 simp
 omega
theorem Lk(w:World)(g:Nat)(nm:ByteArray)(pl:Nat)(rd:Option Addr)(rc:Nat)(L:List (List ByteArray))(a b c:ByteArray)(h:bW w g 125 nm pl rd rc L [])(hL:L.length≤999999):
 Calls Tryz.prog 128 #[.pointer (some ⟨g,0,none⟩),.agg #[.string a,.string b,.string c]] w fun e w'=>
  e=.returned (.tuple #[])∧bW w' g 125 nm pl rd rc (Tb.leave L [a,b,c]) []∧Kb (g::(Value.ownBlock (.slice rd L.length rc)).toList) w w':=by
 obtain⟨w0,db⟩:∃w0,w0=w.alloc (.cells #[.string a,.string b,.string c] 119):=⟨_,rfl⟩
 have bU:Below w.heap.size w w0:=by rw[db];exact(Below.refl _ _).alloc (Nat.le_refl _) _
 have lX:w0.heap[w.heap.size]?=some (.cells #[.string a,.string b,.string c] 119 (0,0)):=by rw[db];exact heap_alloc_new w _
 have t0:w0.cell? ⟨w.heap.size,0,none⟩=some (.string a):=by rw[cell_of_row _ _ 0 _ _ _ lX];rfl
 have t1:w0.cell? ⟨w.heap.size,1,none⟩=some (.string b):=by rw[cell_of_row _ _ 1 _ _ _ lX];rfl
 have t2:w0.cell? ⟨w.heap.size,2,none⟩=some (.string c):=by rw[cell_of_row _ _ 2 _ _ _ lX];rfl
 have h0:=h.below bU
 have yh:Hid (∀W,Below w0.heap.size w0 W→Calls Tryz.prog 75 #[.pointer (some ⟨g,0,none⟩),.agg #[.string a,.string b,.string c]] W fun e w'=>e=.returned (.tuple #[.int .i64 (Tb.pos L [a,b,c]:Nat),.bool (Tb.jT L [a,b,c])])∧Hid (Below w.heap.size w w')∧w'.cell? ⟨g,2,none⟩=some (.slice rd L.length rc)∧g<w'.heap.size):=by
  intro W hW
  have h1:=h0.below hW
  refine(qV W g rd rc L a b c h1.rows (by omega) h1.ord h1.kz.1).mono ?_
  rintro e w' ⟨rfl,hb⟩
  have sJ:Below w.heap.size w W:=bU.trans (hW.mono bU.size)
  have wM:Below w.heap.size w w':=sJ.trans (hb.mono sJ.size)
  exact⟨rfl,wM,(h.below wM).kz.1,lt_of_heap (h.below wM).cP⟩
 have mO:=lt_of_heap h.cP
 have HT:Hid (bW w g 125 nm pl rd rc L []):=h
 cases dS:Tb.jT L [a,b,c]with
 | false=>
  rw[dS]at yh
  have Wm:Tb.leave L [a,b,c]=L:=by unfold Tb.leave;rw[dS];rfl
  rw[Wm]
  generalize Tb.pos L [a,b,c]=ps at yh
  clear h h0 lX dS Wm
  go_enter Tryz.func128,Tryz.ntmps128
  go_wp2_with fail
  rw[←db]
  clear db
  go_region_with (go_at_call 75;refine(yh.out _ (by exact(Below.refl _ _).drew)).mono ?_;rintro e w1 ⟨rfl,HE,Lp,ft⟩)
  all_goals
   go_wp2_with fail
   go_end0
   exact⟨rfl,HT.out.below HE.out,Kb.bM HE.out _⟩
 | true=>
  rw[dS]at yh
  obtain⟨aG,G2,hle⟩:=Kl dS h.ord
  obtain⟨gr,rfl⟩:∃gr,rd=some ⟨gr,0,none⟩:=by
   obtain⟨gr,_,_,_,e,_⟩:=h.rows.at aG
   exact⟨gr,e⟩
  have VW:Hid (∀W,Below w.heap.size w W→Calls Tryz.prog 197 #[.slice (some ⟨gr,0,none⟩) L.length rc,.int .i64 (Tb.pos L [a,b,c]:Nat),.int .i64 ((Tb.pos L [a,b,c]:Nat)+1)] W fun e w3=>e=.returned (.slice (some ⟨gr,0,none⟩) (Tb.leave L [a,b,c]).length rc)∧
   Hid (bW (w3.setCell ⟨g,2,none⟩ (.slice (some ⟨gr,0,none⟩) (Tb.leave L [a,b,c]).length rc)) g 125 nm pl (some ⟨gr,0,none⟩) rc (Tb.leave L [a,b,c]) []∧Kb (g::(Value.ownBlock (.slice (some ⟨gr,0,none⟩) L.length rc)).toList) w (w3.setCell ⟨g,2,none⟩ (.slice (some ⟨gr,0,none⟩) (Tb.leave L [a,b,c]).length rc)))∧w3.cell? ⟨g,2,none⟩=some (.slice (some ⟨gr,0,none⟩) L.length rc)∧w3.frozen? ⟨g,2,none⟩=false∧g<w3.heap.size):=by
   intro W hW
   have h1:=h.below hW
   refine(yO W gr rc (Tb.pos L [a,b,c]) (Tb.pos L [a,b,c]+1) L.length (aK L) rfl aG h1.rows.own (mR L) (by omega)).mono ?_
   rintro e w3 ⟨rfl,q1,q2⟩
   have Cd:g≠gr:=by
    have:=h.apart
    simpa [Value.ownBlock]using this
   have fH:w3.heap[g]?=_:=q2.heap h1.cP (by simpa using Cd)
   rw[←G2]at q1 ⊢
   have hk:Kb (g::(Value.ownBlock (.slice (some ⟨gr,0,none⟩) L.length rc)).toList) w w3:=(Kb.bM hW _).trans (q2.mono (fun x hx _=>by simp at hx;simp[Value.ownBlock,hx]))
   refine⟨rfl,⟨⟨?_,⟨?_, ?_⟩,Tb.Lh h.ord _,h.type⟩,hk.trans ((Kb.setCell w3 ⟨g,2,none⟩ _).mono (fun x hx _=>by simp at hx;simp[hx]))⟩, ?_, ?_,lt_of_heap fH⟩
   · rw[aw _ fH]
     simp[Array.setIfInBounds]
   · intro r hr
     rw[hle]at hr
     rcases List.mem_append.1 hr with hr | hr
     · exact h.rows.three r (List.mem_of_mem_take hr)
     · exact h.rows.three r (List.mem_of_mem_drop hr)
   · have e1:aK (Tb.leave L [a,b,c])=(aK L).take (Tb.pos L [a,b,c]*3)++(aK L).drop ((Tb.pos L [a,b,c]+1)*3):=by
      rw[hle,qU,lY _ h.rows.three,jf _ h.rows.three]
     rw[e1]
     exact(Kb.setCell w3 ⟨g,2,none⟩ _).row q1 (fun x hx=>by simp[Value.ownBlock]at hx;simp;omega)
   · rw[cell_of_row _ _ 2 _ _ _ fH];simp
   · simp[World.frozen?,fH]
  generalize Tb.leave L [a,b,c]=L' at VW ⊢
  have la:Tb.pos L [a,b,c]<1000000:=by omega
  generalize Tb.pos L [a,b,c]=ps at yh VW la
  clear h h0 lX dS hle G2 aG
  go_enter Tryz.func128,Tryz.ntmps128
  go_wp2_with fail
  rw[←db]
  clear db
  go_region_with (go_at_call 75;refine(yh.out _ (by exact(Below.refl _ _).drew)).mono ?_;rintro e w1 ⟨rfl,HE,Lp,ft⟩)
  all_goals
   go_wp2_with (go_at_call 197;refine(VW.out _ HE.out).mono ?_;rintro e w3 ⟨rfl,HF,qo,hf3,nN⟩)
   go_end0
   exact⟨rfl,HF.out.1,HF.out.2⟩
end
/- facts.Total at what was given. -/
section
open Go.RowKit Go.Maps
def jY(left:Lit→Bool)(G:List GT):List GT:=G.filter fun t=>left (bh t.nm)
def nk(G:List GT):Nat:=(G.map fun t=>t.L.length).sum
theorem wK{left:Lit→Bool}{G:List GT}(h:∀kl,left kl=false):jY left G=[]:=by simp[jY,h]
theorem KQ{G:List GT}(hn:(G.map GT.nm).Nodup){left:Lit→Bool}{t:GT}(ht:t∈G)(hl:left (bh t.nm)=true):
 nk (jY left G)=nk (jY (fun z=>left z&& !z.sameKey (bh t.nm)) G)+t.L.length:=by
 induction G with
 | nil=>simp at ht
 | cons a G ih=>
  simp only[List.map_cons,List.nodup_cons]at hn
  unfold jY nk at ih ⊢
  rcases List.mem_cons.1 ht with rfl | ht
  · have e1:G.filter (fun z=>left (bh z.nm)&& !(bh z.nm).sameKey (bh t.nm))=G.filter (fun z=>left (bh z.nm)):=by
     refine List.filter_congr fun z hz=> ?_
     have:(bh z.nm).sameKey (bh t.nm)=false:=sameKey_ne (fun e=>hn.1 (by rw[←km e];exact List.mem_map_of_mem hz))
     simp[this]
    have e2:(bh t.nm).sameKey (bh t.nm)=true:=by simp[Lit.sameKey,bh]
    simp only[List.filter_cons,hl,e2,e1]
    simp
    omega
  · have h1:=ih hn.2 ht
    have:(bh a.nm).sameKey (bh t.nm)=false:=sameKey_ne (fun e=>hn.1 (by rw[km e];exact List.mem_map_of_mem ht))
    simp only[List.filter_cons,this]
    cases left (bh a.nm)<;>simp at h1 ⊢ <;>omega
theorem Ep:∀{G:List GT} {x:ByteArray} {g:Nat},Ax.look (G.map GT.key) x=some g→∃t,t∈G∧t.nm=x∧t.g=g
 | [],x,g,h=>by simp[Ax.look]at h
 | a::G,x,g,h=>by
  rw[List.map_cons]at h
  have e:Ax.look (a.key::G.map GT.key) x=if a.nm=x then some a.g else Ax.look (G.map GT.key) x:=iS ..
  rw[e]at h
  split at h
  · rename_i e
    exact⟨a,by simp,e,Option.some.inj h⟩
  · obtain⟨t,ht,h1⟩:=Ep h
    exact⟨t,by simp[ht],h1⟩
theorem uh(v:Value)(y:DataW Unit×List MemPlace)(h:cQ v=some y):∃c,v=.pointer c:=by
 unfold cQ at h
 split at h
 · exact⟨_,rfl⟩
 · exact⟨_,rfl⟩
 · cases h
theorem ub{G:List GT}{D:DataW Unit}(hD:E5 D (G.map GT.key)){left:Lit→Bool}(hl:∀kl,left kl=true→has D kl=true){x:ByteArray}{c:Option Addr}{kl:Lit}{y:DataW Unit×List MemPlace}
 (hk:keyOf Tryz.prog 9 (.string x)=some kl)(UM:left kl=true)(hR:cQ (.pointer c)=some y)(uR:∀zd,D.atKey kl zd=y.1):kl=bh x∧∃t,t∈G∧t.nm=x∧c=some ⟨t.g,0,none⟩:=by
 have e:kl=bh x:=by
  simp[keyOf,Tryz.underlying9,mapKey]at hk
  exact hk.2.symm
 subst e
 have h1:=hl _ UM
 rw[(hD x).1]at h1
 obtain⟨g,hg⟩:=Option.isSome_iff_exists.1 h1
 obtain⟨t,ht,h2,h3⟩:=Ep hg
 have h4:=(hD x).2 g hg
 rw[uR]at h4
 obtain⟨y1,y2⟩:=y
 simp only at h4
 subst h4
 have:=oV hR
 refine⟨rfl,t,ht,h2, ?_⟩
 rw[h3]
 simpa using this
theorem KR(g n:Nat)(w:World):(method (n+1) 122 (.pointer (some ⟨g,0,none⟩)) "Len").run Tryz.prog w=.ok (136,.pointer (some ⟨g,0,none⟩)) w:=by
 kernel_rfl
theorem J9(w:World)(mb:Nat)(G:List GT)(h:kY w mb G)(hs:nk G≤1000000):
 Calls Tryz.prog 110 #[.map (some mb)] w fun e w'=>e=.returned (.int .i64 (nk G:Nat))∧Below w.heap.size w w':=by
 obtain⟨n,D,au,hn,hD⟩:=h.map.has
 have ff:=au.lt
 have HG:Hid (kY w mb G):=h
 have HD:Hid (E5 D (G.map GT.key)):=hD
 clear h hD
 go_enter Tryz.func110,Tryz.ntmps110
 go_wp2_with (first
  | (at_range;refine wpList_range_own _ rfl _ 102 rfl 9 122 Tryz.gJ Tryz.underlying102 _ mb n _ rfl au ?_;intro w0 Rf mJ DV)
  | go_in)
 go_frame
 go_loopw [3,8] (fun v _ wr=>∃(left:Lit→Bool) (jX k:Nat),wr.ranges Tryz.prog 9 cQ mb w.heap.size n D left jX∧(∀kl,left kl=true→has D kl=true)∧v=.int .i64 k∧k+nk (jY left G)=nk G∧Below w.heap.size w wr)
  (fun _ _ wr=>wr.rangeLeft mb w.heap.size)
 case atStart=>
  refine⟨_,_,0,Rf,fun _ h=>h,rfl, ?_,(Below.refl _ w).grown mJ (Nat.le_refl _) (fun j hj=>by cases hj)⟩
  have e:jY (has D) G=G:=by
   refine List.filter_eq_self.2 fun t ht=> ?_
   rw[(HD.out t.nm).1,gM HG.out.names ht]
   rfl
  rw[e,Nat.zero_add]
 case round=>
  obtain⟨left,jX,k,Wo,Wl,rfl,Th,hb⟩:=hrel
  go_wp2_with (first
   | (at_next;refine wpList_next_ranges _ rfl _ rfl 9 Tryz.gJ cQ Value.string Value.pointer (fun key kl my=>Maps.keyOf_string_inv Tryz.underlying9 my) uh mb w.heap.size n _ _ _ rfl Wo ?_ ?_)
   | go_in)
  · intro LA Pz
    rw[wK Pz]at Th
    have hk:k=nk G:=Th
    subst hk
    go_wp2
    go_ret
    exact⟨rfl,hb⟩
  · intro x c kl y ps w1 JH PR UM hRc uR Je aG ft kV hen
    obtain⟨rfl,t,ht,rfl,rfl⟩:=ub HD.out Wl PR UM hRc uR
    have eL:=KQ HG.out.names ht UM
    have bq:Below w.heap.size w w1:=hb.grown ft hb.size (fun j hj=>by cases hj;exact Nat.le_refl _)
    have hT:bW w1 t.g 125 t.nm t.pl t.rd t.rc t.L []:=(HG.out.bR t ht).below bq
    have WW:=Hd w1 t.g _ _ _ _ _ _ _ hT
    have TH:=lt_of_heap hT.cP
    have hm:=KR t.g
    have OV:Hid (k+t.L.length+nk (jY (fun z=>left z&& !z.sameKey (bh t.nm)) G)=nk G):=by
     show k+t.L.length+nk (jY (fun z=>left z&& !z.sameKey (bh t.nm)) G)=nk G
     omega
    have IA:k+t.L.length≤1000000:=by have:=OV.out;omega
    generalize t.L.length=tl at WW IA OV
    clear eL Th hT
    go_wp2_with (go_at_call 136;refine WW.mono ?_;rintro e w2 ⟨rfl,rfl⟩)
    go_roundw
    case rel=>exact⟨_,JH,k+tl,Je,fun kl h=>Wl kl (by simp at h;exact h.1),by go_num,OV.out,bq⟩
    case measure=>rw[Je.left_eq,Wo.left_eq];exact aG
end
/- NoneGiven: empty tables. -/
section
open Go.RowKit Go.Maps Go.WideMaps Go.WideElems
def xD(p:Pd.Pr)(g:Nat):GT:=⟨p.1,p.2,g,none,0,[]⟩
theorem xL(p:Pd.Pr)(g:Nat):(xD p g).bY=[g]:=rfl
def sW(t:GT):Pd.Pr:=(t.nm,t.pl)
theorem Na{w:World}{p:Pd.Pr}{g:Nat}(h:w.heap[g]?=some (.cells #[.string p.1,.int .i64 p.2,.slice none 0 0] 125 (0,0))):(xD p g).ok w:=⟨h,⟨(by intro r hr;cases hr),World.ownsRow_nil _ _ _ _⟩,List.Pairwise.nil,by decide⟩
structure oU(w wr:World)(mb k:Nat)(Q:List Pd.Pr)(T:List GT):Prop where
 map:∃D,wr.ownsMap Tryz.prog 9 cQ mb k D∧E5 D (T.map GT.key)
 bR:∀t,t∈T→t.ok wr∧∃p g,t=xD p g∧mb<g
 apart:T.Pairwise Fa
 nf:T.map sW=(Q.take k).reverse
 aQ:Below w.heap.size w wr
 VJ:mb=w.heap.size
theorem Di{w wr w3:World}{mb k:Nat}{Q:List Pd.Pr}{T:List GT}{o1:Obj}(h:oU w wr mb k Q T)(hk:k<Q.length){D:DataW Unit}(hD:E5 D (T.map GT.key))(hm:IsMap D)
 (hw:w3.ownsMap Tryz.prog 9 cQ mb (k+1) (D.put (bh (Q[k]).1) (.lit (.int .i64 (wr.heap.size+1:Nat)))))(hg:((wr.alloc o1).alloc (.cells (match Q[k]with | p=>#[.string p.1,.int .i64 p.2,.slice none 0 0]) 125)).grownBy w3 (some mb)):
 oU w w3 mb (k+1) Q (xD Q[k] (wr.heap.size+1)::T):=by
 have fK:Kb [mb] ((wr.alloc o1).alloc (.cells (match Q[k]with | p=>#[.string p.1,.int .i64 p.2,.slice none 0 0]) 125)) w3:=Kb.dV hg
 have cw:Below wr.heap.size wr ((wr.alloc o1).alloc (.cells (match Q[k]with | p=>#[.string p.1,.int .i64 p.2,.slice none 0 0]) 125)):=((Below.refl _ _).alloc (Nat.le_refl _) _).alloc (by simp) _
 have hs:=h.aQ.size
 have aG:∀t,t∈T→∀b,b∈t.bY→b<wr.heap.size∧mb<b:=by
  intro t ht b hb
  obtain⟨dj,p,g,rfl,Vx⟩:=h.bR t ht
  refine⟨dj.lt hb, ?_⟩
  rw[xL,List.mem_singleton]at hb
  rw[hb];exact Vx
 have O6:=h.VJ
 refine⟨⟨_,hw,B3 hD hm _ _⟩, ?_, ?_, ?_, ?_,O6⟩
 · intro t ht
   rcases List.mem_cons.1 ht with rfl | ht
   · refine⟨Na ?_,_,_,rfl,by omega⟩
     have:=fK.heap (pM wr o1 _) (by simp;omega)
     exact this
   · obtain⟨dj,p,g,e,Vx⟩:=h.bR t ht
     refine⟨(dj.below cw).kept fK ?_,p,g,e,Vx⟩
     intro b hb hc
     simp only[List.mem_singleton]at hc
     have:=(aG t ht b hb).2
     omega
 · refine List.pairwise_cons.2 ⟨?_,h.apart⟩
   intro t ht x hx Ck
   rw[xL,List.mem_singleton]at hx
   have:=(aG t ht x Ck).1
   omega
 · have e:Q.take (k+1)=Q.take k++[Q[k]]:=by rw[List.take_add_one,List.getElem?_eq_getElem hk];rfl
   rw[e,List.reverse_append,List.map_cons,h.nf]
   rfl
 · exact fK.aU (h.aQ.trans (cw.mono hs)) (by simp;omega) (by simp;omega)
theorem pT(w:World)(B:Nat)(qd:Option Addr)(qc:Nat)(Q:List Pd.Pr)(hq:w.ownsRow B 112 2 (.slice qd Q.length qc) Q.length (aF Q))(hl:Q.length≤1000)(hs:∀p,p∈Q→p.1.size≤1000000):
 Calls Tryz.prog 58 #[.slice qd Q.length qc] w fun e w'=>∃T,e=.returned (.map (some w.heap.size))∧oU w w' w.heap.size Q.length Q T:=by
 have VE:=@run_makeMap Tryz.prog
 have HS:Hid (∀p,p∈Q→p.1.size≤1000000):=hs
 clear hs
 go_enter Tryz.func58,Tryz.ntmps58
 go_wp2_with fail
 go_loopw [9] (fun i wr=>∃(k:Nat) (T:List GT),k≤Q.length∧i=.int .i64 k∧oU w wr w.heap.size k Q T) (fun i _=>Q.length-(intOf i).toNat)
 case atStart=>exact⟨0,[],Nat.zero_le _,rfl,⟨⟨_,World.ownsMap_made _ _ _ _,Be⟩,by simp,List.Pairwise.nil,by simp,(Below.refl _ _).alloc (Nat.le_refl _) _,rfl⟩⟩
 case round=>
  obtain⟨k,T,hk,rfl,hn⟩:=hrel
  obtain⟨D,au,hD⟩:=hn.map
  have HN:Hid (oU w wr w.heap.size k Q T):=hn
  have HD:Hid (E5 D (T.map GT.key)):=hD
  have hDm:=au.isMap
  have O6:=au.lt
  have aV:=hn.aQ
  have cR:=aV.size
  have HB:Hid (Below w.heap.size w wr):=aV
  clear hD hn
  by_cases aG:k<Q.length
  · have bF:=ah hq aV
    obtain⟨g,rfl,hg,hc,br⟩:=aD bF (by omega)
    have gB:=br _ _ (aY Q k aG).1
    have gH:=br _ _ (aY Q k aG).2
    have sI:(Q[k]).1.size≤1000000:=HS.out _ (List.getElem_mem aG)
    have yk:Hid (∀w3 o1,w3.ownsMap Tryz.prog 9 cQ w.heap.size (k+1) (D.put (bh (Q[k]).1) (.lit (.int .i64 (wr.heap.size+1:Nat))))→((wr.alloc o1).alloc (.cells (match Q[k]with | p=>#[.string p.1,.int .i64 p.2,.slice none 0 0]) 125)).grownBy w3 (some w.heap.size)→oU w w3 w.heap.size (k+1) Q (xD Q[k] (wr.heap.size+1)::T)):=fun w3 o1 a b=>Di HN.out aG HD.out hDm a b
    generalize Q[k]=x at gB gH sI yk
    have my:keyOf Tryz.prog 9 (.string x.1)=some (bh x.1):=keyOf_string_mk Tryz.underlying9 (by unfold maxLen;omega)
    have HK:Hid (keyOf Tryz.prog 9 (.string x.1)=some (bh x.1)):=my
    clear my br bF aV hq
    go_wp2_with (at_mapUpdate;go_must (refine wpList_mapUpdate_own _ rfl _ _ _ 102 rfl 9 122 Tryz.gJ Tryz.underlying102 _ w.heap.size k D rfl ((au.alloc _).alloc _) (by unfold maxLen;omega) _ _ (bh x.1) rfl rfl HK.out (.lit (.int .i64 (wr.heap.size+1:Nat))) [] (by rfl) ?_;intro w3 fF gG))
    go_roundw
    case rel=>exact⟨k+1,_,by omega,by go_num,yk.out _ _ fF gG⟩
    case measure=>simp[intOf];omega
  · have qH:k=Q.length:=by omega
    have HE:Hid (oU w wr w.heap.size Q.length Q T):=by rw[←qH];exact HN.out
    clear aV qH
    go_wp2_with fail
    go_ret
    exact⟨T,rfl,HE.out⟩
end
/- facts.CopyGiven. -/
section
open Go.RowKit Go.Maps Go.WideMaps Go.WideElems
def j9(t:GT):ByteArray×Nat×List (List ByteArray):=(t.nm,t.pl,t.L)
theorem GI{G:List GT}(hn:(G.map GT.nm).Nodup){left:Lit→Bool}{t:GT}(ht:t∈G)(hl:left (bh t.nm)=true):
 (jY left G).Perm (t::jY (fun z=>left z&& !z.sameKey (bh t.nm)) G):=by
 induction G with
 | nil=>simp at ht
 | cons a G ih=>
  simp only[List.map_cons,List.nodup_cons]at hn
  unfold jY at ih ⊢
  rcases List.mem_cons.1 ht with rfl | ht
  · have e1:G.filter (fun z=>left (bh z.nm)&& !(bh z.nm).sameKey (bh t.nm))=G.filter (fun z=>left (bh z.nm)):=by
     refine List.filter_congr fun z hz=> ?_
     have:(bh z.nm).sameKey (bh t.nm)=false:=sameKey_ne (fun e=>hn.1 (by rw[←km e];exact List.mem_map_of_mem hz))
     simp[this]
    have e2:(bh t.nm).sameKey (bh t.nm)=true:=by simp[Lit.sameKey,bh]
    simp only[List.filter_cons,hl,e2,e1]
    simp
  · have h1:=ih hn.2 ht
    have:(bh a.nm).sameKey (bh t.nm)=false:=sameKey_ne (fun e=>hn.1 (by rw[km e];exact List.mem_map_of_mem ht))
    simp only[List.filter_cons,this]
    cases left (bh a.nm)
    · simpa using h1
    · simp
      exact(h1.cons a).trans (List.Perm.swap t a _)
structure lu(w wr:World)(mb:Nat)(G R N:List GT):Prop where
 map:∃D,wr.ownsMap Tryz.prog 9 cQ mb N.length D∧E5 D (N.map GT.key)
 bR:∀t,t∈N→t.ok wr∧∀b,b∈t.bY→mb+1<b
 apart:N.Pairwise Fa
 data:(N.map j9++R.map j9).Perm (G.map j9)
 aQ:Below w.heap.size w wr
 VJ:mb=w.heap.size
theorem lu.Cf{w wr:World}{mb:Nat}{G R N:List GT}(h:lu w wr mb G R N):N.length≤G.length:=by
 have:=h.data.length_eq
 simp at this
 omega
theorem lu.next{w wr w1:World}{mb:Nat}{G R N:List GT}(h:lu w wr mb G R N)(hg:wr.grownBy w1 (some (mb+1)))(aG:mb<wr.heap.size):lu w w1 mb G R N:=by
 have hk:Kb [mb+1] wr w1:=Kb.dV hg
 obtain⟨D,⟨es,ck,hb,hr⟩,hD⟩:=h.map
 have hm:=h.VJ
 refine⟨⟨D,⟨es,ck,hk.heap hb (by simp),hr⟩,hD⟩,fun t ht=>⟨(h.bR t ht).1.kept hk (fun b hb=> ?_),(h.bR t ht).2⟩,h.apart,h.data,hk.aU h.aQ h.aQ.size (by simp;omega),hm⟩
 have:=(h.bR t ht).2 b hb
 simp
 omega
theorem yR{w:World}{B:Nat}{e:TypeId}{size:Nat}{v:Value}{n:Nat}{xs:List Value}(h:w.ownsRow B e size v n xs):w.ownsRow 0 e size v n xs:=by
 refine⟨h.1, ?_⟩
 rcases h.2 with h2 | ⟨g,cap,cur,e1,_,h3⟩
 · exact .inl h2
 · exact .inr ⟨g,cap,cur,e1,Nat.zero_le _,h3⟩
theorem lu.step{w w1 w5 w6 w7:World}{mb:Nat}{G R R' N:List GT}{t:GT}(h:lu w w1 mb G R N)(O6:mb+1<w1.heap.size)(hp:R.Perm (t::R'))(TL:Tb.Ord t.L)(h3:pS t.L){rd:Option Addr}{rc:Nat}(mN:Below w1.heap.size w1 w5)
 (ho:w5.ownsRow w1.heap.size 119 3 (.slice rd t.L.length rc) t.L.length (aK t.L))(h6:w6=w5.alloc (.cells #[.string t.nm,.int .i64 t.pl,.slice rd t.L.length rc] 125))
 {D:DataW Unit}(hD:E5 D (N.map GT.key))(hm:IsMap D)(hw:w7.ownsMap Tryz.prog 9 cQ mb (N.length+1) (D.put (bh t.nm) (.lit (.int .i64 (w5.heap.size:Nat)))))(hg:w6.grownBy w7 (some mb)):
 lu w w7 mb G R' (⟨t.nm,t.pl,w5.heap.size,rd,rc,t.L⟩::N):=by
 subst h6
 have hk:Kb [mb] (w5.alloc (.cells #[.string t.nm,.int .i64 t.pl,.slice rd t.L.length rc] 125)) w7:=Kb.dV hg
 have pL:Below w1.heap.size w1 (w5.alloc (.cells #[.string t.nm,.int .i64 t.pl,.slice rd t.L.length rc] 125)):=mN.alloc mN.size _
 have hs5:=mN.size
 have kV:=h.aQ.size
 have ads:=h.VJ
 have u9:∀b,Value.ownBlock (.slice rd t.L.length rc)=some b→w1.heap.size≤b∧b<w5.heap.size:=fun b hb=>ho.lt b hb
 refine⟨⟨_,hw,B3 hD hm _ _⟩, ?_, ?_, ?_, ?_,ads⟩
 · intro u hu
   rcases List.mem_cons.1 hu with rfl | hu
   · refine⟨⟨?_,⟨h3, ?_⟩,TL,by decide⟩, ?_⟩
     · have:=hk.heap (heap_alloc_new w5 _) (by simp;omega)
       exact this
     · exact hk.row ((yR ho).alloc _) (fun b hb=>by have:=u9 b hb;simp;omega)
     · intro b hb
       simp only[GT.bY,List.mem_cons,Option.mem_toList]at hb
       rcases hb with rfl | hb
       · omega
       · have:=u9 b hb;omega
   · refine⟨((h.bR u hu).1.below pL).kept hk (fun b hb=> ?_),(h.bR u hu).2⟩
     have:=(h.bR u hu).2 b hb
     simp
     omega
 · refine List.pairwise_cons.2 ⟨?_,h.apart⟩
   intro u hu x hx Ck
   have h1:=(h.bR u hu).1.lt Ck
   simp only[GT.bY,List.mem_cons,Option.mem_toList]at hx
   rcases hx with rfl | hx
   · omega
   · have:=u9 x hx;omega
 · refine List.Perm.trans ?_ h.data
   have e:(R.map j9).Perm (j9 t::R'.map j9):=hp.map j9
   have h1:(N.map j9++R.map j9).Perm (j9 t::(N.map j9++R'.map j9)):=(e.append_left _).trans List.perm_middle
   exact h1.symm
 · exact hk.aU (h.aQ.trans (pL.mono kV)) (by simp;omega) (by simp;omega)
theorem yw(w:World)(mb:Nat)(G:List GT)(h:kY w mb G)(hs:∀t,t∈G→t.L.length≤999999)(hGl:G.length≤1000):
 Calls Tryz.prog 126 #[.map (some mb)] w fun e w'=>∃N,e=.returned (.map (some w.heap.size))∧lu w w' w.heap.size G [] N:=by
 have VE:=@run_makeMap Tryz.prog
 obtain⟨n,D,au,hn,hD⟩:=h.map.has
 have ff:=au.lt
 have HG:Hid (kY w mb G):=h
 have HD:Hid (E5 D (G.map GT.key)):=hD
 have HS:Hid (∀t,t∈G→t.L.length≤999999):=hs
 have e1:(w.alloc (.map #[] 0)).heap.size=w.heap.size+1:=by simp
 clear h hD hs
 go_enter Tryz.func126,Tryz.ntmps126
 go_wp2_with (first
  | (at_range;refine wpList_range_own _ rfl _ 102 rfl 9 122 Tryz.gJ Tryz.underlying102 _ mb n _ rfl (au.alloc _) ?_;intro w0 Rf mJ DV)
  | go_in)
 go_frame
 rw[e1]at Rf DV ⊢
 go_loopw [9] (fun _ wr=>∃(left:Lit→Bool) (jX:Nat) (N:List GT),wr.ranges Tryz.prog 9 cQ mb (w.heap.size+1) n D left jX∧(∀kl,left kl=true→has D kl=true)∧lu w wr w.heap.size G (jY left G) N)
  (fun _ wr=>wr.rangeLeft mb (w.heap.size+1))
 case atStart=>
  have e:jY (has D) G=G:=by
   refine List.filter_eq_self.2 fun t ht=> ?_
   rw[(HD.out t.nm).1,gM HG.out.names ht]
   rfl
  refine⟨_,_,[],Rf,fun _ h=>h,⟨⟨_,(World.ownsMap_made _ _ _ _).kept mJ (by simp),Be⟩,by simp,List.Pairwise.nil,by rw[e];simp,((Below.refl _ _).alloc (Nat.le_refl _) _).grown mJ (by simp) (fun j hj=>by cases hj),rfl⟩⟩
 case round=>
  obtain⟨left,jX,N,Wo,Wl,RM⟩:=hrel
  go_wp2_with (first
   | (at_next;refine wpList_next_ranges _ rfl _ rfl 9 Tryz.gJ cQ Value.string Value.pointer (fun key kl my=>Maps.keyOf_string_inv Tryz.underlying9 my) uh mb (w.heap.size+1) n _ _ _ rfl Wo ?_ ?_)
   | go_in)
  · intro LA Pz
    rw[wK Pz]at RM
    go_wp2
    go_ret
    exact⟨N,rfl,RM⟩
  · intro x c kl y ps w1 JH PR UM hRc uR Je aG ft kV hen
    obtain⟨rfl,t,ht,rfl,rfl⟩:=ub HD.out Wl PR UM hRc uR
    have Zs:=Je.lt
    have Of:=RM.next ft (by omega)
    have hT:bW w1 t.g 125 t.nm t.pl t.rd t.rc t.L []:=(HG.out.bR t ht).below Of.aQ
    have Ry:=HS.out t ht
    obtain⟨c2,f2,c1,c0⟩:=hT.kz
    have TH:=lt_of_heap hT.cP
    obtain⟨D2,yf,hD2⟩:=Of.map
    have Hy:=Of.Cf
    have yk:∀w5 w7 rd rc,(Below w1.heap.size w1 w5∧w5.ownsRow w1.heap.size 119 3 (.slice rd t.L.length rc) t.L.length (aK t.L))→w7.ownsMap Tryz.prog 9 cQ w.heap.size (N.length+1) (D2.put (bh t.nm) (.lit (.int .i64 (w5.heap.size:Nat))))→(w5.alloc (.cells #[.string t.nm,.int .i64 t.pl,.slice rd t.L.length rc] 125)).grownBy w7 (some w.heap.size)→
     ∃N',lu w w7 w.heap.size G (jY (fun z=>left z&& !z.sameKey (bh t.nm)) G) N'∧w7.ranges Tryz.prog 9 cQ mb (w.heap.size+1) n D (fun z=>left z&& !z.sameKey (bh t.nm)) JH:=by
     intro w5 w7 rd rc hh hw hg
     obtain⟨mN,Ys⟩:=hh
     refine⟨_,Of.step (by omega) (GI HG.out.names ht UM) hT.ord hT.rows.three mN Ys rfl hD2 yf.isMap hw hg, ?_⟩
     have h5:w5.ranges Tryz.prog 9 cQ mb (w.heap.size+1) n D (fun z=>left z&& !z.sameKey (bh t.nm)) JH:=Je.kept (row:=none) ⟨mN.os,mN.tape,mN.output,mN.size,fun i hi _=>mN.block i hi⟩ (by simp) (by simp)
     exact(h5.alloc _).kept hg (fun e=>by have:=Option.some.inj e;omega) (fun e=>by have:=Option.some.inj e;omega)
    have OL:Hid (∀W,Below w1.heap.size w1 W→Calls Tryz.prog 133 #[.pointer (some ⟨t.g,0,none⟩)] W fun e w5=>∃rd rc w7,e=.returned (.slice rd t.L.length rc)∧w5.cell? ⟨t.g,0,none⟩=some (.string t.nm)∧w5.cell? ⟨t.g,1,none⟩=some (.int .i64 t.pl)∧
     (Instr.mapUpdate 102 (.map (some w.heap.size)) (.string t.nm) (.pointer (some ⟨w5.heap.size,0,none⟩))).run Tryz.prog (w5.alloc (.cells #[.string t.nm,.int .i64 t.pl,.slice rd t.L.length rc] 125))=.ok () w7∧w7.cell? ⟨t.g,0,none⟩=some (.string t.nm)∧w7.cell? ⟨t.g,1,none⟩=some (.int .i64 t.pl)∧
     Hid (∃N',lu w w7 w.heap.size G (jY (fun z=>left z&& !z.sameKey (bh t.nm)) G) N'∧w7.ranges Tryz.prog 9 cQ mb (w.heap.size+1) n D (fun z=>left z&& !z.sameKey (bh t.nm)) JH)):=by
     intro W hW
     refine(wg W t.g _ _ _ _ _ _ _ (hT.below hW) Ry).mono ?_
     rintro e w5 ⟨rd,rc,rfl,q1,q2⟩
     have mN:Below w1.heap.size w1 w5:=hW.trans (q2.mono hW.size)
     have hT5:=(hT.below mN).kz
     have Ys:w5.ownsMap Tryz.prog 9 cQ w.heap.size N.length D2:=by
      obtain⟨es,ck,hb,hr⟩:=yf
      exact⟨es,ck,by rw[mN.block _ (lt_of_heap hb)];exact hb,hr⟩
     obtain⟨w7,Mv,r1,r2⟩:=(Ys.alloc (.cells #[.string t.nm,.int .i64 t.pl,.slice rd t.L.length rc] 125)).update Tryz.gJ Tryz.underlying102 (by unfold maxLen;omega) PR (val:=.pointer (some ⟨w5.heap.size,0,none⟩)) (d:=.lit (.int .i64 (w5.heap.size:Nat))) (ps:=[]) (by rfl)
     obtain⟨N',s1,s2⟩:=yk w5 w7 rd rc ⟨mN,aE q1 hW.size⟩ r1 r2
     have Tu:=bW.kz ((HG.out.bR t ht).below s1.aQ)
     exact⟨rd,rc,w7,rfl,hT5.2.2.2,hT5.2.2.1,Mv,Tu.2.2.2,Tu.2.2.1,N',s1,s2⟩
    have SP:Hid (wr.rangeLeft mb (w.heap.size+1)=jX):=Wo.left_eq
    have HLH:Hid (∀kl,left kl=true→has D kl=true):=Wl
    generalize hL:t.L.length=tl at OL
    generalize t.nm=nm at*
    generalize t.pl=pl at*
    generalize t.g=tg at*
    clear yk Je Of hT c2 f2 RM Wo ft kV uR hRc PR au Wl yf hD2 hL Ry
    go_wp2_with fail
    go_region_held3 (fun w'=>w'.cell? ⟨tg,0,none⟩=some (.string nm)∧w'.cell? ⟨tg,1,none⟩=some (.int .i64 pl)) (go_keep) ((go_at_call 133;refine(OL.out _ (by exact(Below.refl _ _).drew)).mono ?_;rintro e w5 ⟨rd,rc,w7,rfl,c50,c51,hmu,c70,c71,KA⟩))
    go_wp2_with fail
    go_roundw
    case rel=>
     obtain⟨N',r1,r2⟩:=KA.out
     exact⟨_,JH,N',r2,fun kl h=>HLH.out kl (by simp at h;exact h.1),r1⟩
    case measure=>
     obtain⟨N',r1,r2⟩:=KA.out
     rw[r2.left_eq,SP.out]
     exact aG
end
end Go.Proofs.YtdmicblafmhflaaGreatDoor
