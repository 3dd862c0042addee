/- Package follow: hold. -/
import Derived.Test.YtdmicblafmhflaaGreatDoorC22
set_option linter.unusedSimpArgs false
set_option linter.unusedVariables false
set_option maxHeartbeats 4000000
set_option maxRecDepth 100000
namespace Go.Proofs.YtdmicblafmhflaaGreatDoor
section
open Go.RowKit Go.Maps Go.WideMaps Go.WideElems
open Go.Sort (grow)
theorem Tryz.LR:(Tryz.prog.info? 325).map (fun i=>(i.zero,i.size,i.bytes))=some (some (.agg #[.string ByteArray.empty,.string ByteArray.empty,.string ByteArray.empty,.string ByteArray.empty]),4,64):=by kernel_rfl
theorem Tryz.Bo(w:World):(zeroValue 97).run Tryz.prog w=.ok (.pointer none) w:=by kernel_rfl
def zN(w w':World)(fd:Option Addr)(fc n:Nat):Prop:=∀b,Value.ownBlock (.slice fd n fc)=some b→(∃cur,w'.heap[b]?=some (.cells cur 325 (0,0)))∧∀j,j<n*4→w'.cell? ⟨b,j,none⟩=w.cell? ⟨b,j,none⟩
structure iI(w w':World)(sb mb:Nat)(rv:Value)(fd:Option Addr)(fc:Nat)(T:List HT)(s s':En.dH En.b7):Prop where
 on:∃LX LS T',mK w' sb mb rv LX LS T' s'∧T'.map HT.key=T.map HT.key∧(∀b,b∈dI sb LX LS s'.found.length T'→b∈dI sb fd fc s.found.length T∨w.heap.size≤b)
 kept:Kb (dI sb fd fc s.found.length T) w w'
 cells:zN w w' fd fc s.found.length
theorem wy{sb:Nat}{fd:Option Addr}{fc n:Nat}{A B:List HT}{t:HT}{b:Nat}(hb:b∈t.bY):b∈dI sb fd fc n (A++t::B):=by
 unfold dI
 simp only[List.mem_cons,List.mem_append,List.mem_flatMap]
 exact .inr (.inr ⟨t,by simp,hb⟩)
theorem zK{w:World}{sb:Nat}{fd LX:Option Addr}{fc LS n n':Nat}{A B:List HT}{t t':HT}(hf:cr w (.slice fd n fc) (.slice LX n' LS))(ht:∀b,b∈t'.bY→b∈t.bY∨w.heap.size≤b){b:Nat}(hb:b∈dI sb LX LS n' (A++t'::B)):b∈dI sb fd fc n (A++t::B)∨w.heap.size≤b:=by
 unfold dI at hb ⊢
 rcases List.mem_cons.1 hb with rfl | hb
 · exact .inl (by simp)
 · rcases List.mem_append.1 hb with hb | hb
   · rw[Option.mem_toList]at hb
     rcases hf b hb with e | e
     · exact .inl (by simp only[List.mem_cons,List.mem_append,Option.mem_toList];exact .inr (.inl e))
     · exact .inr e
   · obtain⟨u,hu,cw⟩:=List.mem_flatMap.1 hb
     rcases List.mem_append.1 hu with hu | hu
     · exact .inl (by simp only[List.mem_cons,List.mem_append,List.mem_flatMap];exact .inr (.inr ⟨u,by simp[hu],cw⟩))
     · rcases List.mem_cons.1 hu with rfl | hu
       · rcases ht b cw with e | e
         · exact .inl (wy e)
         · exact .inr e
       · exact .inl (by simp only[List.mem_cons,List.mem_append,List.mem_flatMap];exact .inr (.inr ⟨u,by simp[hu],cw⟩))
theorem qK{w w1:World}{sb mb:Nat}{rv:Value}{fd:Option Addr}{fc:Nat}{A B:List HT}{t:HT}{s:En.dH En.b7}(h0:mK w sb mb rv fd fc (A++t::B) s)(hk:Kb t.bY w w1){b:Nat}(hb:Value.ownBlock (.slice fd s.found.length fc)=some b):w1.heap[b]?=w.heap[b]?:=by
 obtain⟨cur,e⟩:=aI h0.B6 hb
 rw[hk.block b (lt_of_heap e)]
 intro hc
 obtain⟨lN,U,e',hU⟩:=(h0.bR t (by simp)).types hc
 rw[e]at e'
 simp only[Option.some.injEq,Obj.cells.injEq]at e'
 rcases hU with rfl | rfl | rfl<;>cases e'.2.1
theorem Qy{w w1:World}{sb mb:Nat}{rv:Value}{fd:Option Addr}{fc:Nat}{A B:List HT}{t t':HT}{s s':En.dH En.b7}(hs:s'.found=s.found)(h0:mK w sb mb rv fd fc (A++t::B) s)(h:OA w1 sb mb rv fd fc (A++t'::B) s.found s')(hk:Kb t.bY w w1)(ht:∀b,b∈t'.bY→b∈t.bY∨w.heap.size≤b)(my:t'.key=t.key):
 iI w w1 sb mb rv fd fc (A++t::B) s s' where
 on:=by
  refine⟨fd,fc,A++t'::B,⟨by rw[hs];exact h.cP,h.map,by rw[hs];exact h.B6,h.bR,h.apart,h.names,h.rows,h.tO,h.zero,h.three,h.short⟩,by simp[my], ?_⟩
  intro b hb
  rw[hs]at hb
  exact zK (cr.refl _ _) ht hb
 kept:=hk.mono fun i hi _=>wy hi
 cells:=fun b hb=>⟨by obtain⟨cur,e⟩:=aI h0.B6 hb;exact⟨cur,(qK h0 hk hb).trans e⟩,fun j _=>World.cell?_of_block (qK h0 hk hb)⟩
theorem PW{w w1 W w2:World}{sb mb:Nat}{rv:Value}{fd:Option Addr}{fc:Nat}{A B:List HT}{t t':HT}{s s':En.dH En.b7}{f:En.b7}(hs:s'.found=s.found++[f])(h0:mK w sb mb rv fd fc (A++t::B) s)(h:OA w1 sb mb rv fd fc (A++t'::B) s.found s')(hk:Kb t.bY w w1)(ht:∀b,b∈t'.bY→b∈t.bY∨w.heap.size≤b)(my:t'.key=t.key)
 (hW:Below w1.heap.size w1 W){g cap:Nat}(au:w2.ownsRow 0 325 4 (.slice (some ⟨g,0,none⟩) (s.found.length+1) cap) (s.found.length+1) (cm s.found++qm f))(eE:W.grownBy w2 (Value.ownBlock (.slice fd s.found.length fc)))(Jn:cr W (.slice fd s.found.length fc) (.slice (some ⟨g,0,none⟩) (s.found.length+1) cap))
 (qD:∀b:Nat,Value.ownBlock (.slice fd s.found.length fc)=some b→(∃cur,w2.heap[b]?=some (.cells cur 325 (0,0)))∧∀j,j<s.found.length*4→w2.cell? ⟨b,j,none⟩=W.cell? ⟨b,j,none⟩):
 iI w (w2.setCell ⟨sb,2,none⟩ (.slice (some ⟨g,0,none⟩) (s.found.length+1) cap)) sb mb rv fd fc (A++t::B) s s':=by
 have hlen:s'.found.length=s.found.length+1:=by rw[hs];simp
 have mA:Kb (Value.ownBlock (.slice fd s.found.length fc)).toList W w2:=Kb.dV eE
 have hfW:W.ownsRow 0 325 4 (.slice fd s.found.length fc) s.found.length (cm s.found):=ah h.B6 hW
 have hty:∀b,b∈(Value.ownBlock (.slice fd s.found.length fc)).toList→∃cur,W.heap[b]?=some (.cells cur 325 (0,0)):=by
  intro b hb
  rw[Option.mem_toList]at hb
  exact aI hfW hb
 have R2:W.heap[sb]?=some (.cells #[rv,.map (some mb),.slice fd s.found.length fc] 322 (0,0)):=by rw[hW.block _ (lt_of_heap h.cP)];exact h.cP
 have SF:w2.heap[sb]?=some (.cells #[rv,.map (some mb),.slice fd s.found.length fc] 322 (0,0)):=by
  refine mA.heap R2 ?_
  intro hc
  obtain⟨cur,e⟩:=hty sb hc
  rw[R2]at e
  cases e
 have qZ:=Kb.setCell w2 ⟨sb,2,none⟩ (.slice (some ⟨g,0,none⟩) (s.found.length+1) cap)
 have rL:Kb (Value.ownBlock (.slice fd s.found.length fc)).toList w1 w2:=(Kb.bM hW _).trans mA
 have qG:Kb (sb::(Value.ownBlock (.slice fd s.found.length fc)).toList) w1 (w2.setCell ⟨sb,2,none⟩ (.slice (some ⟨g,0,none⟩) (s.found.length+1) cap)):=by
  refine Kb.trans' (rL.mono fun i hi _=>List.mem_cons_of_mem _ hi) qZ ?_
  intro i hi _
  simp only[List.mem_singleton]at hi
  subst hi
  simp
 have kV:w.heap.size≤w1.heap.size:=hk.size
 refine⟨⟨some ⟨g,0,none⟩,cap,A++t'::B,⟨?_, ?_, ?_, ?_,h.apart,h.names,h.rows,h.tO,h.zero,h.three,h.short⟩,by simp[my], ?_⟩, ?_, ?_⟩
 · rw[aw w2 SF,hlen]
   rfl
 · refine h.map.kept qG ?_
   intro hc
   obtain⟨es,ck,eb⟩:=h.map.block
   rcases List.mem_cons.1 hc with rfl | hc
   · rw[h.cP]at eb;cases eb
   · rw[Option.mem_toList]at hc
     obtain⟨cur,e⟩:=aI h.B6 hc
     rw[eb]at e
     cases e
 · rw[hlen,hs]
   have e:cm (s.found++[f])=cm s.found++qm f:=by simp[cm]
   rw[e]
   refine qZ.row au ?_
   intro b hb hc
   simp only[List.mem_singleton]at hc
   obtain⟨cur,e⟩:=aI au hb
   rw[hc,SF]at e
   cases e
 · intro u hu
   refine(h.bR u hu).kept qG ?_
   intro b hb hc
   obtain⟨cur,U,e,hU⟩:=(h.bR u hu).types hb
   rcases List.mem_cons.1 hc with rfl | hc
   · rw[h.cP]at e
     simp only[Option.some.injEq,Obj.cells.injEq]at e
     rcases hU with rfl | rfl | rfl<;>cases e.2.1
   · rw[Option.mem_toList]at hc
     obtain⟨lN,e'⟩:=aI h.B6 hc
     rw[e]at e'
     simp only[Option.some.injEq,Obj.cells.injEq]at e'
     rcases hU with rfl | rfl | rfl<;>cases e'.2.1
 · intro b hb
   refine zK (t:=t) (t':=t') ?_ ht hb
   intro x hx
   rcases Jn x hx with e | e
   · exact .inl e
   · exact .inr (Nat.le_trans (Nat.le_trans kV hW.size) e)
 · refine Kb.trans' (hk.mono fun i hi _=>wy hi) qG ?_
   intro i hi _
   unfold dI
   rcases List.mem_cons.1 hi with rfl | hi
   · simp
   · simp only[List.mem_cons,List.mem_append]
     exact .inr (.inl hi)
 · intro b hb
   obtain⟨cur,e0⟩:=aI h0.B6 hb
   obtain⟨akb,e1⟩:=aI h.B6 hb
   have W8:b≠sb:=by
    rintro rfl
    rw[h0.cP]at e0
    cases e0
   obtain⟨⟨acs,e2⟩,JF⟩:=qD b hb
   refine⟨⟨acs,(Below.heap_setCell _ _ _ _ W8).trans e2⟩,fun j hj=> ?_⟩
   have c1:w1.cell? ⟨b,j,none⟩=w.cell? ⟨b,j,none⟩:=World.cell?_of_block (qK h0 hk hb)
   have c2:W.cell? ⟨b,j,none⟩=w1.cell? ⟨b,j,none⟩:=hW.cell (lt_of_heap e1)
   rw[←c1,←c2,←JF j hj]
   exact World.cell?_of_block (Below.heap_setCell _ _ _ _ W8)
theorem iI.trans{w w1 w2:World}{sb mb:Nat}{rv:Value}{fd vA:Option Addr}{fc vm:Nat}{T T1:List HT}{s s1 s2:En.dH En.b7}(h0:mK w sb mb rv fd fc T s)(hm:mK w1 sb mb rv vA vm T1 s1)(my:T1.map HT.key=T.map HT.key)(OJ:∀b,b∈dI sb vA vm s1.found.length T1→b∈dI sb fd fc s.found.length T∨w.heap.size≤b)
 (hk:Kb (dI sb fd fc s.found.length T) w w1)(hc:zN w w1 fd fc s.found.length)(hlen:s.found.length≤s1.found.length)(h2:iI w1 w2 sb mb rv vA vm T1 s1 s2):iI w w2 sb mb rv fd fc T s s2 where
 on:=by
  obtain⟨Sm,RZ,T2,a,b,c⟩:=h2.on
  refine⟨Sm,RZ,T2,a,b.trans my,fun x hx=> ?_⟩
  rcases c x hx with e | e
  · exact OJ x e
  · exact .inr (Nat.le_trans hk.size e)
 kept:=hk.trans' h2.kept fun i hi aG=>by
  rcases OJ i hi with e | e
  · exact e
  · omega
 cells:=by
  intro b hb
  obtain⟨⟨cur,e⟩,JF⟩:=hc b hb
  by_cases au:Value.ownBlock (.slice vA s1.found.length vm)=some b
  · obtain⟨t2,c2⟩:=h2.cells b au
    exact⟨t2,fun j hj=>(c2 j (by omega)).trans (JF j hj)⟩
  · have hnf:¬b∈dI sb vA vm s1.found.length T1:=by
     intro fy
     unfold dI at fy
     rcases List.mem_cons.1 fy with rfl | fy
     · rw[hm.cP]at e;cases e
     · rcases List.mem_append.1 fy with fy | fy
       · rw[Option.mem_toList]at fy
         exact au fy
       · obtain⟨u,hu,ZT⟩:=List.mem_flatMap.1 fy
         obtain⟨lN,U,e',hU⟩:=(hm.bR u hu).types ZT
         rw[e]at e'
         simp only[Option.some.injEq,Obj.cells.injEq]at e'
         rcases hU with rfl | rfl | rfl<;>cases e'.2.1
    have Sd:=h2.kept.block b (lt_of_heap e) hnf
    exact⟨⟨cur,Sd.trans e⟩,fun j hj=>(World.cell?_of_block Sd).trans (JF j hj)⟩
theorem iI.refl{w:World}{sb mb:Nat}{rv:Value}{fd:Option Addr}{fc:Nat}{T:List HT}{s:En.dH En.b7}(h:mK w sb mb rv fd fc T s):iI w w sb mb rv fd fc T s s where
 on:=⟨fd,fc,T,h,rfl,fun _ hb=>.inl hb⟩
 kept:=Kb.refl _ _
 cells:=fun b hb=>⟨aI h.B6 hb,fun _ _=>rfl⟩
end
/- Package follow: hold, walked. -/
section
open Go.RowKit Go.Maps Go.WideMaps Go.WideElems
open Go.Sort (grow)
theorem ze{α:Type}[DecidableEq α](P l:List α)(h:l.Nodup)(hm:∀x,x∈l→x∈P):l.length≤P.length:=Ax.wO P l h hm
theorem zX{w:World}{sb mb:Nat}{rv:Value}{fd:Option Addr}{fc:Nat}{T:List HT}{s:En.dH En.b7}(h:mK w sb mb rv fd fc T s){t:HT}(ht:t∈T):t.L.length≤s.found.length:=by
 have DE:(t.L.map fun r=>((t.nm,r):En.b7)).Nodup:=by
  have:=(h.bR t ht).nW.ord.nodup
  exact List.Pairwise.map _ (fun x y cE e=>cE (by simpa using e)) this
 have:=ze s.found _ DE (fun x hx=>by
  obtain⟨r,hr,rfl⟩:=List.mem_map.1 hx
  exact(h.rows t ht r).1 hr)
 simpa using this
theorem zu{w:World}{sb mb:Nat}{rv:Value}{fd:Option Addr}{fc:Nat}{T:List HT}{s:En.dH En.b7}(h:mK w sb mb rv fd fc T s){t:HT}(ht:t∈T)(r:List ByteArray):Tb.jT t.L r=true↔(t.nm,r)∈s.found:=by
 rw[Tb.dA]
 exact h.rows t ht r
theorem Mz{s:En.dH En.b7}{f:En.b7}{n:Nat}(h:f∈s.found):(En.hold s f n).found=s.found:=by
 unfold En.hold
 exact if_pos h
theorem MN{s:En.dH En.b7}{f:En.b7}{n:Nat}(h:¬f∈s.found):(En.hold s f n).found=s.found++[f]:=by
 unfold En.hold
 exact if_neg h
theorem zq(w:World)(sb mb:Nat)(rv:Value)(fd:Option Addr)(fc:Nat)(A B:List HT)(t:HT)(s:En.dH En.b7)(h:mK w sb mb rv fd fc (A++t::B) s)(a b c:ByteArray)(n:Nat)(hn:n≤1000)(hF:s.found.length≤999990)(hC:∀f,s.count f≤1000000000000):
 Calls Tryz.prog 187 #[.pointer (some ⟨sb,0,none⟩),.agg #[.string t.nm,.string a,.string b,.string c],.int .i64 n] w fun e w'=>e=.returned (.tuple #[])∧iI w w' sb mb rv fd fc (A++t::B) s (En.hold s (t.nm,[a,b,c]) n):=by
 have EJ:t∈A++t::B:=by simp
 have hLs:=zX h EJ
 obtain⟨w0,db⟩:∃w0,w0=w.alloc (.cells #[.string t.nm,.string a,.string b,.string c] 325):=⟨_,rfl⟩
 have bU:Below w.heap.size w w0:=by rw[db];exact(Below.refl _ _).alloc (Nat.le_refl _) _
 have lC:w0.heap[w.heap.size]?=some (.cells #[.string t.nm,.string a,.string b,.string c] 325 (0,0)):=by rw[db];exact heap_alloc_new w _
 have DV:w0.heap.size=w.heap.size+1:=by rw[db];simp
 have h0:=h.below bU
 have x0:w0.cell? ⟨w.heap.size,0,none⟩=some (.string t.nm):=by rw[cell_of_row _ _ 0 _ _ _ lC];rfl
 have x1:w0.cell? ⟨w.heap.size,1,none⟩=some (.string a):=by rw[cell_of_row _ _ 1 _ _ _ lC];rfl
 have x2:w0.cell? ⟨w.heap.size,2,none⟩=some (.string b):=by rw[cell_of_row _ _ 2 _ _ _ lC];rfl
 have x3:w0.cell? ⟨w.heap.size,3,none⟩=some (.string c):=by rw[cell_of_row _ _ 3 _ _ _ lC];rfl
 have s1:w0.cell? ⟨sb,1,none⟩=some (.map (some mb)):=by rw[cell_of_row _ _ 1 _ _ _ h0.cP];rfl
 have ac3:sb<w0.heap.size:=lt_of_heap h0.cP
 have nP:∀W:World,W.heap=w0.heap→(Instr.lookup 103 (.map (some mb)) (.string t.nm) false).run Tryz.prog W=.ok (.pointer (some ⟨t.g,0,none⟩)) W:=by
  intro W hW
  have hm:ks W mb ((A++t::B).map HT.pk):=by
   obtain⟨q1,q2,⟨es,ck,q3,q4⟩,q5,q6⟩:=h0.map.has
   exact⟨q1,q2,⟨es,ck,by rw[hW];exact q3,q4⟩,q5,q6⟩
  exact hm.look (oG h.names EJ) (h.short t EJ) Tryz.underlying103 (Tryz.Bo W)
 have LN:=nP w0.drew rfl
 have hH:∀W:World,W.heap=w0.heap→Below w0.heap.size w0 W→Calls Tryz.prog 230 #[.pointer (some ⟨t.g,0,none⟩),.agg #[.string a,.string b,.string c],.int .i64 n] W fun e w1=>e=.returned (.bool (!Tb.jT t.L [a,b,c]))∧∃t',OA w1 sb mb rv fd fc (A++t'::B) s.found (En.hold s (t.nm,[a,b,c]) n)∧Kb t.bY w w1∧(∀q,q∈t'.bY→q∈t.bY∨w.heap.size≤q)∧t'.key=t.key∧w1.heap[w.heap.size]?=some (.cells #[.string t.nm,.string a,.string b,.string c] 325 (0,0)):=by
  intro W hW sJ
  have hWb:Below w.heap.size w W:=bU.trans (sJ.mono bU.size)
  have dj:=(h.bR t EJ).below hWb
  refine(MJ W t.g t.nm t.pl t.rd t.rc t.cd t.cc t.L t.C a b c n dj (by omega) hn ?_).mono ?_
  · intro x hx
    rw[h.tO t EJ]at hx
    obtain⟨r,_,rfl⟩:=List.mem_map.1 hx
    exact hC _
  · rintro e w1 ⟨rd',rc',cd',cc',rfl,q1,q2,q3,q4⟩
    obtain⟨m1,m2,m3⟩:=h.mid hWb (r:=[a,b,c]) (n:=n) rfl (rd':=rd') (rc':=rc') (cd':=cd') (cc':=cc') q1 q2 q3 q4
    refine⟨rfl,_,m1,m2,m3,rfl, ?_⟩
    refine q2.heap (by rw[hW];exact lC) ?_
    intro hc
    have:=HT.ok.lt (h.bR t EJ) hc
    omega
 clear nP
 by_cases dS:(t.nm,[a,b,c])∈s.found
 · have ND:Tb.jT t.L [a,b,c]=true:=(zu h EJ _).2 dS
   have Uy:Hid ((En.hold s (t.nm,[a,b,c]) n).found=s.found):=Mz dS
   rw[ND]at hH
   have H:Hid (mK w sb mb rv fd fc (A++t::B) s):=h
   clear dS ND h h0 lC
   go_enter Tryz.func187,Tryz.ntmps187
   go_wp2_with fail
   rw[←db]
   clear db
   go_region_with (go_at_call 230;refine(hH _ (by rfl) (by exact(Below.refl _ _).drew)).mono ?_;rintro e w1 ⟨rfl,t',m1,m2,m3,m4,m5⟩)
   all_goals
    (have eh:=Qy Uy.out H.out m1 m2 m3 m4
     clear m1 m2 m3 m4 m5 hH LN x0 x1 x2 x3 s1
     go_wp2_with fail
     go_end0
     exact⟨rfl,eh⟩)
 · have ND:Tb.jT t.L [a,b,c]=false:=by
    rw[Bool.eq_false_iff]
    exact fun e=>dS ((zu h EJ _).1 e)
   have Uy:Hid ((En.hold s (t.nm,[a,b,c]) n).found=s.found++[(t.nm,[a,b,c])]):=MN dS
   rw[ND]at hH
   have H:Hid (mK w sb mb rv fd fc (A++t::B) s):=h
   obtain⟨i0,jS,ew,ev,dY⟩:=info_parts Tryz.LR
   have HI:Hid (Tryz.prog.info? 325=some i0):=jS
   have H0:Hid (i0.zero=some (.agg #[.string ByteArray.empty,.string ByteArray.empty,.string ByteArray.empty,.string ByteArray.empty])):=ew
   have H1:Hid (i0.size=4):=ev
   have H2:Hid (i0.bytes=64):=dY
   clear dS ND h h0 lC jS ew ev dY
   go_enter Tryz.func187,Tryz.ntmps187
   go_wp2_with fail
   rw[←db]
   clear db
   go_upto_region 1 with fail
   go_cut [16]from 6 (fun bv wx=>bv=.bool true∧∃t',OA wx sb mb rv fd fc (A++t'::B) s.found (En.hold s (t.nm,[a,b,c]) n)∧Kb t.bY w wx∧(∀q,q∈t'.bY→q∈t.bY∨w.heap.size≤q)∧t'.key=t.key∧wx.heap[w.heap.size]?=some (.cells #[.string t.nm,.string a,.string b,.string c] 325 (0,0)))
   case first=>
    go_region_with (go_at_call 230;refine(hH _ (by rfl) (by exact(Below.refl _ _).drew)).mono ?_;rintro e w1 ⟨rfl,Hk⟩)
    all_goals (go_wp2_with fail;go_meet;exact⟨rfl,Hk⟩)
   case rest=>
    obtain⟨rfl,t',m1,m2,m3,m4,m5⟩:=hcut
    have y0:wc.cell? ⟨w.heap.size,0,none⟩=some (.string t.nm):=by rw[cell_of_row _ _ 0 _ _ _ m5];rfl
    have y1:wc.cell? ⟨w.heap.size,1,none⟩=some (.string a):=by rw[cell_of_row _ _ 1 _ _ _ m5];rfl
    have y2:wc.cell? ⟨w.heap.size,2,none⟩=some (.string b):=by rw[cell_of_row _ _ 2 _ _ _ m5];rfl
    have y3:wc.cell? ⟨w.heap.size,3,none⟩=some (.string c):=by rw[cell_of_row _ _ 3 _ _ _ m5];rfl
    have z2:wc.cell? ⟨sb,2,none⟩=some (.slice fd s.found.length fc):=by rw[cell_of_row _ _ 2 _ _ _ m1.cP];rfl
    have Xy:sb<wc.heap.size:=lt_of_heap m1.cP
    have akJ:w.heap.size<wc.heap.size:=lt_of_heap m5
    have O7:=m1.B6
    have eh:∀W w2:World,Below wc.heap.size wc W→∀g cap,w2.ownsRow 0 325 4 (.slice (some ⟨g,0,none⟩) (s.found.length+1) cap) (s.found.length+1) (cm s.found++[.string t.nm,.string a,.string b,.string c])→W.grownBy w2 (Value.ownBlock (.slice fd s.found.length fc))→cr W (.slice fd s.found.length fc) (.slice (some ⟨g,0,none⟩) (s.found.length+1) cap)→
     (∀q:Nat,Value.ownBlock (.slice fd s.found.length fc)=some q→(∃cur,w2.heap[q]?=some (.cells cur 325 (0,0)))∧∀j,j<s.found.length*4→w2.cell? ⟨q,j,none⟩=W.cell? ⟨q,j,none⟩)→iI w (w2.setCell ⟨sb,2,none⟩ (.slice (some ⟨g,0,none⟩) (s.found.length+1) cap)) sb mb rv fd fc (A++t::B) s (En.hold s (t.nm,[a,b,c]) n)∧(∃v,w2.cell? ⟨sb,2,none⟩=some v)∧w2.frozen? ⟨sb,2,none⟩=false:=by
     intro W w2 hW g cap e1 e2 e3 e4
     refine⟨PW Uy.out H.out m1 m2 m3 m4 hW e1 e2 e3 e4, ?_⟩
     have cw:w2.heap[sb]?=some (.cells #[rv,.map (some mb),.slice fd s.found.length fc] 322 (0,0)):=by
      rw[e2.block sb (Nat.lt_of_lt_of_le Xy hW.size) ?_,hW.block _ Xy]
      · exact m1.cP
      · intro hc
        obtain⟨cur,e⟩:=aI m1.B6 hc.symm
        rw[m1.cP]at e
        cases e
     exact⟨⟨_,by rw[cell_of_row _ _ 2 _ _ _ cw];rfl⟩,by simp[World.frozen?,cw]⟩
    clear m1 m2 m3 m4 m5 hH LN x0 x1 x2 x3 s1
    go_upto_region 2 with fail
    go_region_law (refine sU _ rfl (.tmp 21) (.tmp 23) 320 rfl 0 325 i0 _ 4 64 Tryz.underlying320 HI.out H0.out H1.out H2.out rfl (by decide) (.slice fd s.found.length fc) s.found.length (cm s.found) (by simp[Act.eval,Act.put]) (by exact O7.alloc _) ⟨wc.heap.size,0,none⟩ 1 1 [.string t.nm,.string a,.string b,.string c] (by simp[Act.eval,Act.put]) rfl (by exact World.news_of_block (heap_alloc_new _ _)) (by simp[Value.oneCell']) (by decide) (by unfold maxLen;omega) (by omega) (by simp) ?_;intro g2 kX w2 e1 e2 e3 e4;obtain⟨nS,⟨v2,yD⟩,ahK⟩:=eh _ w2 (((Below.refl _ _).alloc (Nat.le_refl _) _).drew) g2 kX e1 e2 e3 e4)
    all_goals (first | (go_end0;exact⟨rfl,nS⟩) | (go_wp2_with fail;go_end0;exact⟨rfl,nS⟩))
end
/- Package follow: conclude. -/
section
open Go.RowKit Go.Maps Go.WideMaps Go.WideElems
open Go.Sort (grow)
structure R5(a:Ax.Atom):Prop where
 three:a.ak.length≤3
 kinds:∀t,t∈a.ak→t.kind=0∨t.kind=1
theorem iI.pre{w w1 w':World}{sb mb:Nat}{rv:Value}{fd:Option Addr}{fc:Nat}{T:List HT}{s s':En.dH En.b7}(h:iI w1 w' sb mb rv fd fc T s s')(hb:Below w.heap.size w w1)(h0:mK w sb mb rv fd fc T s):iI w w' sb mb rv fd fc T s s' where
 on:=by
  obtain⟨LX,LS,T',a,b,c⟩:=h.on
  refine⟨LX,LS,T',a,b,fun x hx=> ?_⟩
  rcases c x hx with e | e
  · exact .inl e
  · exact .inr (Nat.le_trans hb.size e)
 kept:=(Kb.bM hb _).trans h.kept
 cells:=by
  intro b ff
  obtain⟨cur,e⟩:=aI h0.B6 ff
  obtain⟨t1,c1⟩:=h.cells b ff
  exact⟨t1,fun j hj=>(c1 j hj).trans (hb.cell (lt_of_heap e))⟩
theorem CA{b:En.Bind}{a:Ax.Atom}(h:a.ak.length≤3):∃x y z,En.dD (En.val b) a=(a.pred,[x,y,z])∧kZ a.pred (fw (J6 a.ak (En.val b)) a.ak.length)=#[.string a.pred,.string x,.string y,.string z]:=by
 obtain⟨x,y,z,e⟩:=KC (l:=a.ak.map (En.dQ (En.val b))) (by simpa using h)
 refine⟨x,y,z,by unfold En.dD;rw[e], ?_⟩
 rw[LW _ _ _ h,e]
 rfl
theorem sG(w:World)(sb mb:Nat)(rv:Value)(fd:Option Addr)(fc:Nat)(A B:List HT)(t:HT)(s:En.dH En.b7)(h:mK w sb mb rv fd fc (A++t::B) s)(hF:s.found.length≤999990)(hC:∀f,s.count f≤1000000000000)
 (a:Ax.Atom)(ad:Option Addr)(ac:Nat)(bv:Value)(ha:MA.ok w (a,.slice ad a.ak.length ac))(dj:R5 a)(hp:a.pred=t.nm)(b:En.Bind)(n:Nat)(X Y:Nat→ByteArray)(hb:B1 b n X Y)(bd:Option Addr)(bm bc:Nat)(Zf:bv=.slice bd bm bc):
 Calls Tryz.prog 231 #[.pointer (some ⟨sb,0,none⟩),.agg #[.int .i64 a.at_,.string a.pred,.slice ad a.ak.length ac,bv],.agg (cH n X Y)] w fun e w'=>e=.returned (.tuple #[])∧iI w w' sb mb rv fd fc (A++t::B) s (En.hold s (En.dD (En.val b) a) 1):=by
 subst Zf
 obtain⟨x,y,z,e1,e2⟩:=CA (b:=b) dj.three
 rw[e1,hp]
 have My:Hid (∀W:World,Below w.heap.size w W→∀g,W.heap[g]?=some (.cells (cH n X Y) 369 (0,0))→Calls Tryz.prog 265 #[.pointer (some ⟨g,0,none⟩),.agg #[.int .i64 a.at_,.string t.nm,.slice ad a.ak.length ac]] W fun e w'=>e=.returned (.agg #[.string t.nm,.string x,.string y,.string z])∧Below W.heap.size W w'):=by
  intro W hW g hg
  have R7:=M4 W g n X Y b hb hg a ad ac (ah ha hW) dj.kinds dj.three
  rw[hp]at R7
  refine R7.mono ?_
  rintro e w' ⟨h1,rfl⟩
  rw[←hp,e2]
  exact⟨rfl,h1⟩
 have hho:Hid (∀W:World,Below w.heap.size w W→Calls Tryz.prog 187 #[.pointer (some ⟨sb,0,none⟩),.agg #[.string t.nm,.string x,.string y,.string z],.int .i64 1] W fun e w'=>e=.returned (.tuple #[])∧iI w w' sb mb rv fd fc (A++t::B) s (En.hold s (t.nm,[x,y,z]) 1)):=by
  intro W hW
  refine(zq W sb mb rv fd fc A B t s (h.below hW) x y z 1 (by decide) hF hC).mono ?_
  rintro e w' ⟨rfl,h1⟩
  exact⟨rfl,h1.pre hW h⟩
 clear e1 e2 ha dj hb h hp
 have Oi:Hid (∀W:World,W.heap=((w.alloc (.cells #[.int .i64 a.at_,.string t.nm,.slice ad a.ak.length ac,.slice bd bm bc] 222)).alloc (.cells (cH n X Y) 369)).heap→W.heap[w.heap.size+1]?=some (.cells (cH n X Y) 369 (0,0))):=fun W hW=>by rw[hW];exact pM w _ _
 have aV:Hid (Below w.heap.size w ((w.alloc (.cells #[.int .i64 a.at_,.string t.nm,.slice ad a.ak.length ac,.slice bd bm bc] 222)).alloc (.cells (cH n X Y) 369))):=((Below.refl _ _).alloc (Nat.le_refl _) _).alloc (by simp) _
 go_enter Tryz.func231,Tryz.ntmps231
 go_wp2_with (first | (go_at_call 265;refine(My.out _ (by exact aV.out) _ (by exact Oi.out _ rfl)).mono ?_;rintro e w1 ⟨rfl,bq⟩) | (go_at_call 187;refine(hho.out _ (by exact aV.out.trans (bq.mono aV.out.size))).mono ?_;rintro e w2 ⟨rfl,jN⟩))
 go_end0
 exact⟨rfl,jN⟩
end
/- Package follow: join. -/
section
open Go.RowKit Go.Maps Go.WideMaps Go.WideElems
open Go.Sort (grow)
theorem Tt(w:World)(b0:En.Bind)(n0:Nat)(X0 Y0:Nat→ByteArray)(bU:B1 b0 n0 X0 Y0)(a:Ax.Atom)(ad:Option Addr)(ac:Nat)(pr x y z:ByteArray)
 (ha:MA.ok w (a,.slice ad a.ak.length ac))(dj:R5 a)(hn:n0+a.ak.length≤6):
 Calls Tryz.prog 266 #[.agg (cH n0 X0 Y0),.agg #[.int .i64 a.at_,.string a.pred,.slice ad a.ak.length ac],.agg #[.string pr,.string x,.string y,.string z]] w fun e w'=>∃n1 X1 Y1 ok,e=.returned (.tuple #[.agg (cH n1 X1 Y1),.bool ok])∧Below w.heap.size w w'∧
  Hid ((ok=false∧En.dt a (pr,[x,y,z]) b0=none)∨(ok=true∧∃b1,En.dt a (pr,[x,y,z]) b0=some b1∧B1 b1 n1 X1 Y1∧n1≤n0+a.ak.length)):=by
 refine(KY w b0 n0 X0 Y0 bU a ad ac pr x y z ha dj.kinds dj.three hn).mono ?_
 rintro e w' ⟨h1,⟨h2,rfl⟩ | ⟨b1,n1,X1,Y1,h2,h3,h4,rfl⟩⟩
 · exact⟨_,_,_,_,rfl,h1,.inl ⟨rfl,h2⟩⟩
 · exact⟨_,_,_,_,rfl,h1,.inr ⟨rfl,b1,h2,h3,h4⟩⟩
theorem Ky{l:List En.b7}(h:Vj l){k:Nat}(hk:k<l.length){p a b c:ByteArray}(e:l[k]=(p,[a,b,c])):
 (cm l)[k*4]?=some (.string p)∧(cm l)[k*4+1]?=some (.string a)∧(cm l)[k*4+2]?=some (.string b)∧(cm l)[k*4+3]?=some (.string c):=by
 induction l generalizing k with
 | nil=>simp at hk
 | cons f l ih=>
  have hl:(qm f).length=4:=by simp[qm,h f (by simp)]
  have sL:∀j,(cm (f::l))[j+4]?=(cm l)[j]?:=by
   intro j
   have:cm (f::l)=qm f++cm l:=by simp[cm]
   rw[this,List.getElem?_append_right (by omega)]
   congr 1
   omega
  cases k with
  | zero=>
   simp only[List.getElem_cons_zero]at e
   subst e
   simp[cm,qm]
  | succ k=>
   have:=ih (fun x hx=>h x (by simp[hx])) (k:=k) (by simpa using hk) (by simpa using e)
   rw[show(k+1)*4=k*4+4 by omega,show k*4+4+1=k*4+1+4 by omega,show k*4+4+2=k*4+2+4 by omega,show k*4+4+3=k*4+3+4 by omega,sL,sL,sL,sL]
   exact this
structure tj(w:World)(a:Ax.Atom)(ad:Option Addr)(ac:Nat)(bd:Option Addr)(bc:Nat)(body:List MA):Prop where
 mr:MR.ok w ⟨(a,.slice ad a.ak.length ac),.slice bd body.length bc,body⟩
 head:R5 a
 atoms:∀x,x∈body→R5 x.1
 two:body.length≤2
theorem tj.below{w w':World}{a:Ax.Atom}{ad:Option Addr}{ac:Nat}{bd:Option Addr}{bc:Nat}{body:List MA}(h:tj w a ad ac bd bc body)(hb:Below w.heap.size w w'):tj w' a ad ac bd bc body:=⟨MR.below h.mr hb,h.head,h.atoms,h.two⟩
theorem MA.Hm{w w':World}{S:List Nat}{x:MA}(h:MA.ok w x)(hk:Kb S w w')(hS:∀b cur,b∈S→w.heap[b]?=some (.cells cur 310 (0,0))→False):MA.ok w' x:=by
 refine hk.row h ?_
 intro b hb hm
 obtain⟨cur,e⟩:=aI h hb
 exact hS b cur hm e
theorem tj.search{w w':World}{sb mb:Nat}{rv:Value}{fd:Option Addr}{fc:Nat}{T:List HT}{s s':En.dH En.b7}{a:Ax.Atom}{ad:Option Addr}{ac:Nat}{bd:Option Addr}{bc:Nat}{body:List MA}(h:tj w a ad ac bd bc body)(h0:mK w sb mb rv fd fc T s)(hs:iI w w' sb mb rv fd fc T s s'):tj w' a ad ac bd bc body:=by
 have jK:∀b cur U,b∈dI sb fd fc s.found.length T→w.heap[b]?=some (.cells cur U (0,0))→U=322∨U=325∨U=117∨U=119∨U=3:=by
  intro b cur U hb e
  obtain⟨lN,U',e',hU⟩:=ls h0 hb
  rw[e]at e'
  simp only[Option.some.injEq,Obj.cells.injEq]at e'
  rw[e'.2.1]
  exact hU
 have hT:∀b cur,b∈dI sb fd fc s.found.length T→w.heap[b]?=some (.cells cur 310 (0,0))→False:=by
  intro b cur hb e
  have:=jK b cur _ hb e
  rcases this with e | e | e | e | e<;>cases e
 refine⟨⟨MA.Hm h.mr.1 hs.kept hT,hs.kept.row h.mr.2.1 ?_,fun x hx=>MA.Hm (h.mr.2.2 x hx) hs.kept hT⟩,h.head,h.atoms,h.two⟩
 intro b hb hm
 obtain⟨cur,e⟩:=aI h.mr.2.1 hb
 have:=jK b cur _ hm e
 rcases this with e | e | e | e | e<;>cases e
theorem nB{T:List HT}{p:ByteArray}(h:p∈T.map HT.nm):∃A t B,T=A++t::B∧p=t.nm:=by
 obtain⟨t,ht,rfl⟩:=List.mem_map.1 h
 obtain⟨A,B,e⟩:=List.append_of_mem ht
 exact⟨A,t,B,e,rfl⟩
theorem kk{T T':List HT}(h:T'.map HT.key=T.map HT.key):T'.map HT.nm=T.map HT.nm:=by
 have e:∀l:List HT,l.map HT.nm=(l.map HT.key).map Prod.fst:=fun l=>by rw[List.map_map];rfl
 rw[e,e,h]
theorem Hx(w:World)(o1 o2:Obj):Below w.heap.size w ((w.alloc o1).alloc o2)∧((w.alloc o1).alloc o2).heap.size=w.heap.size+2∧((w.alloc o1).alloc o2).heap[w.heap.size]?=some o1∧((w.alloc o1).alloc o2).heap[w.heap.size+1]?=some o2:=by
 refine⟨((Below.refl _ _).alloc (Nat.le_refl _) _).alloc (by simp) _,by simp, ?_,pM w _ _⟩
 rw[Below.heap_alloc _ _ _ (by simp)]
 exact heap_alloc_new w _
theorem OP(w:World)(sb mb:Nat)(rv:Value)(fd:Option Addr)(fc:Nat)(T:List HT)(s:En.dH En.b7)(h:mK w sb mb rv fd fc T s)(hF:s.found.length≤999990)(hC:∀f,s.count f≤1000000000000)
 (a:Ax.Atom)(ad:Option Addr)(ac:Nat)(bd:Option Addr)(bc:Nat)(body:List MA)(hr:tj w a ad ac bd bc body)(hp:a.pred∈T.map HT.nm)(b:En.Bind)(n:Nat)(X Y:Nat→ByteArray)(hb:B1 b n X Y)(turn ba:Nat):
 Calls Tryz.prog 232 #[.pointer (some ⟨sb,0,none⟩),.agg #[.int .i64 a.at_,.string a.pred,.slice ad a.ak.length ac,.slice bd body.length bc],.int .i64 body.length,.int .i64 turn,.int .i64 ba,.agg (cH n X Y)] w fun e w'=>e=.returned (.tuple #[])∧iI w w' sb mb rv fd fc T s (En.hold s (En.dD (En.val b) a) 1):=by
 obtain⟨A,t,B,rfl,N5⟩:=nB hp
 have xI:Hid (∀W:World,Below w.heap.size w W→Calls Tryz.prog 231 #[.pointer (some ⟨sb,0,none⟩),.agg #[.int .i64 a.at_,.string a.pred,.slice ad a.ak.length ac,.slice bd body.length bc],.agg (cH n X Y)] W fun e w'=>e=.returned (.tuple #[])∧iI w w' sb mb rv fd fc (A++t::B) s (En.hold s (En.dD (En.val b) a) 1)):=by
  intro W hW
  refine(sG W sb mb rv fd fc A B t s (h.below hW) hF hC a ad ac _ (hr.below hW).mr.1 hr.head N5 b n X Y hb bd body.length bc rfl).mono ?_
  rintro e w' ⟨rfl,h1⟩
  exact⟨rfl,h1.pre hW h⟩
 generalize En.hold s (En.dD (En.val b) a) 1=s' at xI ⊢
 clear h hr hp hb hF hC N5
 go_enter Tryz.func232,Tryz.ntmps232
 go_upto_region 1 with fail
 obtain⟨jb,js,jr,jx⟩:=Hx w (.cells #[.int .i64 a.at_,.string a.pred,.slice ad a.ak.length ac,.slice bd body.length bc] 222) (.cells (cH n X Y) 369)
 generalize (w.alloc (.cells #[.int .i64 a.at_,.string a.pred,.slice ad a.ak.length ac,.slice bd body.length bc] 222)).alloc (.cells (cH n X Y) 369)=w0 at jb js jr jx ⊢
 have V6:Hid (Below w.heap.size w w0):=jb
 have Hh:w.heap.size<w0.heap.size:=by omega
 have YH:w.heap.size+1<w0.heap.size:=by omega
 have r0:w0.cell? ⟨w.heap.size,0,none⟩=some (.int .i64 a.at_):=by rw[cell_of_row _ _ _ _ _ _ jr];rfl
 have r1:w0.cell? ⟨w.heap.size,1,none⟩=some (.string a.pred):=by rw[cell_of_row _ _ _ _ _ _ jr];rfl
 have r2:w0.cell? ⟨w.heap.size,2,none⟩=some (.slice ad a.ak.length ac):=by rw[cell_of_row _ _ _ _ _ _ jr];rfl
 have r3:w0.cell? ⟨w.heap.size,3,none⟩=some (.slice bd body.length bc):=by rw[cell_of_row _ _ _ _ _ _ jr];rfl
 have q0:w0.cell? ⟨w.heap.size+1,0,none⟩=some (.int .i64 n):=by rw[cell_of_row _ _ _ _ _ _ jx];rfl
 have q1:w0.cell? ⟨w.heap.size+1,1,none⟩=some (.string (X 0)):=by rw[cell_of_row _ _ _ _ _ _ jx];rfl
 have q2:w0.cell? ⟨w.heap.size+1,2,none⟩=some (.string (Y 0)):=by rw[cell_of_row _ _ _ _ _ _ jx];rfl
 have q3:w0.cell? ⟨w.heap.size+1,3,none⟩=some (.string (X 1)):=by rw[cell_of_row _ _ _ _ _ _ jx];rfl
 have q4:w0.cell? ⟨w.heap.size+1,4,none⟩=some (.string (Y 1)):=by rw[cell_of_row _ _ _ _ _ _ jx];rfl
 have q5:w0.cell? ⟨w.heap.size+1,5,none⟩=some (.string (X 2)):=by rw[cell_of_row _ _ _ _ _ _ jx];rfl
 have q6:w0.cell? ⟨w.heap.size+1,6,none⟩=some (.string (Y 2)):=by rw[cell_of_row _ _ _ _ _ _ jx];rfl
 have q7:w0.cell? ⟨w.heap.size+1,7,none⟩=some (.string (X 3)):=by rw[cell_of_row _ _ _ _ _ _ jx];rfl
 have q8:w0.cell? ⟨w.heap.size+1,8,none⟩=some (.string (Y 3)):=by rw[cell_of_row _ _ _ _ _ _ jx];rfl
 have q9:w0.cell? ⟨w.heap.size+1,9,none⟩=some (.string (X 4)):=by rw[cell_of_row _ _ _ _ _ _ jx];rfl
 have Wk:w0.cell? ⟨w.heap.size+1,10,none⟩=some (.string (Y 4)):=by rw[cell_of_row _ _ _ _ _ _ jx];rfl
 have V4:w0.cell? ⟨w.heap.size+1,11,none⟩=some (.string (X 5)):=by rw[cell_of_row _ _ _ _ _ _ jx];rfl
 have VF:w0.cell? ⟨w.heap.size+1,12,none⟩=some (.string (Y 5)):=by rw[cell_of_row _ _ _ _ _ _ jx];rfl
 clear jb jr jx
 have Ba:cH n X Y=#[.int .i64 n,.string (X 0),.string (Y 0),.string (X 1),.string (Y 1),.string (X 2),.string (Y 2),.string (X 3),.string (Y 3),.string (X 4),.string (Y 4),.string (X 5),.string (Y 5)]:=rfl
 rw[Ba]at xI
 clear Ba
 go_wp2_with (first | (go_at_call 231;refine(xI.out _ (by exact V6.out)).mono ?_;rintro e w2 ⟨rfl,jN⟩))
 exact bodyPost_ret (v:=.tuple #[]) (by simp[results,Tryz.results232,go_sem]) rfl ⟨rfl,jN⟩
end
end Go.Proofs.YtdmicblafmhflaaGreatDoor
