/- Read. -/
import Derived.Test.YtdmicblafmhflaaGreatDoorC21
import Derived.Test.YtdmicblafmhflaaGreatDoorC22
import Derived.Test.YtdmicblafmhflaaGreatDoorC12
import Derived.Test.YtdmicblafmhflaaGreatDoorC00
import Derived.Test.YtdmicblafmhflaaGreatDoorC18
import Derived.BigQuiet
import Derived.Deep.QuietTactic
set_option linter.unusedSimpArgs false
set_option linter.unusedVariables false
set_option maxHeartbeats 2000000
set_option maxRecDepth 100000
namespace Go.Proofs.YtdmicblafmhflaaGreatDoor
section
open Go.RowKit
theorem Fv(w:World)(pb:Nat)(tv:Value)(ae:List Ax.Tok)(nx j:Nat)(rs:List Ax.bD)(h:dF w pb tv ae nx)(hR:Hid (Ax.cU ae ae.length nx []=(some rs,j))):
 Calls Tryz.prog 104 #[.pointer (some ⟨pb,0,none⟩)] w fun e w'=>∃rd rc l,e=.returned (.tuple #[.slice rd (List.length l) rc,.bool true])∧Hid (l.map MR.ay=rs)∧dF w' pb tv ae j∧w.grownBy w' (some pb)∧w'.ownsRow 0 222 4 (.slice rd l.length rc) l.length (cJ l)∧Iv w' l:=by
 refine(J8 w pb tv ae nx h).mono ?_
 rintro e w' ⟨hp,hg,hc⟩
 rw[hR.out]at hp hc
 rcases hc with⟨v,l,rfl,hn,au,dj⟩ | ⟨_,hn⟩
 · obtain⟨a,c,rfl⟩:=aj au
   simp only[Option.some.injEq]at hn
   exact⟨a,c,l,rfl,hn.symm,hp,hg,aE au (Nat.zero_le _),dj⟩
 · simp at hn
theorem dF.first{s:ByteArray}{w1:World}{td:Option Addr}{tc bs:Nat}(h:w1.ownsRow bs 210 3 (.slice td (Ax.split s).length tc) (Ax.split s).length (dm (Ax.split s)))(hs:s.size≤600):
 dF (w1.alloc (.cells #[.slice td (Ax.split s).length tc,.int .i64 0] 205)) w1.heap.size (.slice td (Ax.split s).length tc) (Ax.split s) 0:=
 ⟨heap_alloc_new _ _,aE (h.alloc _) (Nat.zero_le _),Ax.IP s,by have:=Ax.nr s;omega,Ax.xv s⟩
theorem Cq{w w1:World}{o:Obj}(hb:Below (w.alloc o).heap.size (w.alloc o) w1):w1.heap[w.heap.size]?=some o∧Below w.heap.size w w1∧w.heap.size<w1.heap.size:=by
 have hs:=hb.size
 simp only[World.size_alloc]at hs
 exact⟨(hb.block _ (by simp)).trans (heap_alloc_new _ _),((Below.refl _ _).alloc (Nat.le_refl _) _).trans (hb.mono (by simp)),by omega⟩
theorem DH{w w1 w2:World}{o o2:Obj}(r1:w1.heap[w.heap.size]?=some o)(g1:Below w.heap.size w w1)(hg:(w1.alloc o2).grownBy w2 (some w1.heap.size)):
 w2.heap[w.heap.size]?=some o∧Below w.heap.size w w2∧w1.heap.size<w2.heap.size:=by
 have aG:=lt_of_heap r1
 have hs:=hg.size
 simp only[World.size_alloc]at hs
 refine⟨?_, ?_,by omega⟩
 · rw[hg.block _ (by simp;omega) (by simp;omega),Below.heap_alloc _ _ _ aG]
   exact r1
 · exact(g1.alloc (by omega) o2).grown hg (by simp;omega) (fun k hk=>by cases hk;omega)
theorem lB{w w2 w3:World}{o:Obj}(r2:w2.heap[w.heap.size]?=some o)(b2:Below w.heap.size w w2)(hb:Below w2.heap.size w2 w3):w3.heap[w.heap.size]?=some o∧Below w.heap.size w w3:=
 ⟨(hb.block _ (lt_of_heap r2)).trans r2,b2.trans (hb.mono b2.size)⟩
theorem A9{w w2:World}{k:Nat}{a b:Value}{T:TypeId}(r2:w2.heap[k]?=some (.cells #[a,b] T (0,0)))(c d:Value)(gw:Below w.heap.size w w2)(hk:w.heap.size≤k):
 ((w2.setCell ⟨k,0,none⟩ c).setCell ⟨k,1,none⟩ d).heap[k]?=some (.cells #[c,d] T (0,0))∧Below w.heap.size w ((w2.setCell ⟨k,0,none⟩ c).setCell ⟨k,1,none⟩ d):=by
 have h0:=heap_setCell_same (off:=0) r2 c
 have h1:=heap_setCell_same (off:=1) h0 d
 exact⟨by rw[h1];rfl,(gw.setCell (p:=⟨k,0,none⟩) hk c).setCell (p:=⟨k,1,none⟩) hk d⟩
theorem aX.P0{w:World}{rd:Option Addr}{rc:Nat}{l:List MR}{rs:List Ax.bD}(h:w.ownsRow 0 222 4 (.slice rd l.length rc) l.length (cJ l))(hm:Iv w l)(hl:l.map MR.ay=rs)(hf:Hid (rs.length≤1000∧∀r,r∈rs→Ax.Fits 600 1000 r)):aX w rd rc l:=by
 refine⟨h,hm,fun r hr=> ?_⟩
 have:=(hf.out.2 r.ay (by rw[←hl];exact List.mem_map.2 ⟨r,hr,rfl⟩)).1
 simpa [MR.ay]using this
theorem aX.len{l:List MR}{rs:List Ax.bD}(hl:l.map MR.ay=rs)(hf:Hid (rs.length≤1000∧∀r,r∈rs→Ax.Fits 600 1000 r)):l.length≤1000:=by
 have:=hf.out.1
 rw[←hl]at this
 simpa using this
theorem aX.nI{l:List MR}{rs:List Ax.bD}(hl:l.map MR.ay=rs)(hf:Hid (rs.length≤1000∧∀r,r∈rs→Ax.Fits 600 1000 r)):Hid (∀a,a∈(l.map MR.ay).flatMap Ax.bD.atoms→a.pred.size≤600):=by
 intro a ha
 rw[hl]at ha
 obtain⟨r,hr,ha⟩:=List.mem_flatMap.1 ha
 exact(hf.out.2 r hr).2 a ha
theorem j7(w:World)(rd:Option Addr)(rc:Nat)(l:List MR)(h:aX w rd rc l)(hp:Ax.dd 0 [] (l.map MR.ay)=none):
 Calls Tryz.prog 106 #[.slice rd l.length rc] w fun e w'=>e=.returned (.tuple #[.int .i64 0,.bool false])∧Below w.heap.size w w':=by
 refine(C9 w rd rc l h).mono ?_
 rintro e w' ⟨hb,hc⟩
 rw[hp]at hc
 rcases hc with⟨q,hq,_⟩ | ⟨_,rfl⟩
 · simp at hq
 · exact⟨rfl,hb⟩
theorem je(w:World)(rd:Option Addr)(rc:Nat)(l:List MR)(h:aX w rd rc l)(hp:Ax.cK (l.map MR.ay)=none):
 Calls Tryz.prog 108 #[.slice rd l.length rc] w fun e w'=>e=.returned (.tuple #[.int .i64 0,.bool false])∧Below w.heap.size w w':=by
 refine(Bl w rd rc l h).mono ?_
 rintro e w' ⟨hb,hc⟩
 rw[hp]at hc
 rcases hc with⟨q,hq,_⟩ | ⟨_,rfl⟩
 · simp at hq
 · exact⟨rfl,hb⟩
theorem uU(w:World)(rd:Option Addr)(rc:Nat)(l:List MR)(h:aX w rd rc l)(G2:l.length≤1000)(pa:Hid (∀a,a∈(l.map MR.ay).flatMap Ax.bD.atoms→a.pred.size≤600))(hp:Ax.eN [] ((l.map MR.ay).flatMap Ax.bD.atoms)=none):
 Calls Tryz.prog 107 #[.slice rd l.length rc] w fun e w'=>e=.returned (.tuple #[.int .i64 0,.bool false])∧Below w.heap.size w w':=by
 refine(xR w rd rc l h G2 pa.out).mono ?_
 rintro e w' ⟨hb,hc⟩
 rw[hp]at hc
 rcases hc with⟨q,hq,_⟩ | ⟨_,rfl⟩
 · simp at hq
 · exact⟨rfl,hb⟩
end
/- Read of a program's text hands on its rules. -/
section
open Go.RowKit
theorem aX.kept{w w':World}{S:List Nat}{rd:Option Addr}{rc:Nat}{l:List MR}(h:aX w rd rc l)(hk:Kb S w w')(hS:∀b cur U,b∈S→w.heap[b]?=some (.cells cur U (0,0))→U≠222∧U≠219∧U≠310):aX w' rd rc l:=by
 have hT:∀x:MA,MA.ok w x→MA.ok w' x:=fun x hx=>by
  refine hk.row hx ?_
  intro b hb hm
  obtain⟨cur,e⟩:=aI hx hb
  exact(hS b cur _ hm e).2.2 rfl
 refine⟨hk.row h.1 ?_,fun r hr=>⟨hT _ (h.2.1 r hr).1,hk.row (h.2.1 r hr).2.1 ?_,fun x hx=>hT x ((h.2.1 r hr).2.2 x hx)⟩,h.2.2⟩
 · intro b hb hm
   obtain⟨cur,e⟩:=aI h.1 hb
   exact(hS b cur _ hm e).1 rfl
 · intro b hb hm
   obtain⟨cur,e⟩:=aI (h.2.1 r hr).2.1 hb
   exact(hS b cur _ hm e).2.1 rfl
theorem aX.M5{w2:World}{k:Nat}{a b:Value}{T:TypeId}(r2:w2.heap[k]?=some (.cells #[a,b] T (0,0)))(c d:Value){rd:Option Addr}{rc:Nat}{l:List MR}(h:aX w2 rd rc l)(h1:T≠222)(h2:T≠219)(h3:T≠310):aX ((w2.setCell ⟨k,0,none⟩ c).setCell ⟨k,1,none⟩ d) rd rc l:=by
 refine h.kept ((Kb.setCell w2 ⟨k,0,none⟩ c).trans (Kb.setCell _ ⟨k,1,none⟩ d)) ?_
 intro q cur U hq e
 simp only[List.mem_singleton]at hq
 rw[hq,r2]at e
 simp only[Option.some.injEq,Obj.cells.injEq]at e
 rw[←e.2.1]
 exact⟨h1,h2,h3⟩
theorem Qn(s:ByteArray)(w:World)(cR:s.size≤600)(rs:List Ax.bD)(j:Nat)(HR:Hid (Ax.cU (Ax.split s) (Ax.split s).length 0 []=(some rs,j)))(HF:Hid (rs.length≤1000∧∀r,r∈rs→Ax.Fits 600 1000 r))(H3:Hid (Ax.dd 0 [] rs=none))(H4:Hid (Ax.eN [] (rs.flatMap Ax.bD.atoms)=none))(H5:Hid (Ax.cK rs=none)):
 Calls Tryz.prog 56 #[.string s] w fun e w'=>∃rd rc l,e=.returned (.tuple #[.agg #[.string ⟨(et (Ax.split s)).toArray⟩,.slice rd l.length rc],.int .i64 0,.int .i64 0])∧l.map MR.ay=rs∧aX w' rd rc l∧Below w.heap.size w w':=by
 have TH:¬(600:Int)<(s.size:Int):=by omega
 have aaO:=Ax.nr s
 have Ew:Hid (∀t,t∈Ax.split s→t.text.size≤600):=fun t ht=>Nat.le_trans (Ax.wG s t ht) cR
 go_enter Tryz.func56,Tryz.ntmps56
 go_wp2_with (first | (go_at_call 102;refine(zY s _ (by omega)).mono ?_;rintro e w0 ⟨rfl,bU⟩) | (go_at_call 103;refine(La s _ (by omega)).mono ?_;rintro e w1 ⟨v1,rfl,bH,bq⟩;obtain⟨td,tc,rfl⟩:=aj bH;obtain⟨r1,gw1,Zy⟩:=Cq (bU.trans (bq.mono bU.size))) | (go_at_call 104;have aco:=dF.first (s:=s) (td:=td) (tc:=tc) bH cR;refine(Fv _ _ _ _ _ _ _ aco HR).mono ?_;rintro e w2 ⟨rd,rc,l,rfl,hl,jZ,eE,DJ,Zb⟩;have G2:=aX.len hl.out HF;have pa:=aX.nI hl.out HF;have XW:=aX.P0 DJ Zb hl.out HF;obtain⟨r2,b2,O5⟩:=DH r1 gw1 eE;have f02:=aq r2 0;have f12:=aq r2 1;have Tk:=ag r2 0;have IQ:=ag r2 1;simp only[List.getElem?_toArray,List.getElem?_cons_zero,List.getElem?_cons_succ]at Tk IQ;have lt2:=lt_of_heap r2) | (go_at_call 106;refine(j7 _ _ _ _ XW (by rw[hl.out];exact H3.out)).mono ?_;rintro e w3 ⟨rfl,fH⟩;obtain⟨r3,b3⟩:=lB r2 b2 fH;have N3:=XW.below fH;have ZK:=aq r3 0;have f13:=aq r3 1;have PJ:=ag r3 0;have Gk:=ag r3 1;simp only[List.getElem?_toArray,List.getElem?_cons_zero,List.getElem?_cons_succ]at PJ Gk;have lt3:=lt_of_heap r3) | (go_at_call 107;refine(uU _ _ _ _ N3 G2 pa (by rw[hl.out];exact H4.out)).mono ?_;rintro e w4 ⟨rfl,qX⟩;obtain⟨r4,b4⟩:=lB r3 b3 qX;have EO:=N3.below qX;have UA:=aq r4 0;have f14:=aq r4 1;have Gr:=ag r4 0;have yT:=ag r4 1;simp only[List.getElem?_toArray,List.getElem?_cons_zero,List.getElem?_cons_succ]at Gr yT;have lt4:=lt_of_heap r4) | (go_at_call 108;refine(je _ _ _ _ EO (by rw[hl.out];exact H5.out)).mono ?_;rintro e w5 ⟨rfl,mN⟩;obtain⟨r5,b5⟩:=lB r4 b4 mN;have Vs:=((jZ.below fH).below qX).below mN;have adj:=EO.below mN;have q0:=ag Vs.1 0;simp only[List.getElem?_toArray,List.getElem?_cons_zero]at q0;have q1:=lt_of_heap Vs.1;have f05:=aq r5 0;have f15:=aq r5 1;have XX:=ag r5 0;have M6:=ag r5 1;simp only[List.getElem?_toArray,List.getElem?_cons_zero,List.getElem?_cons_succ]at XX M6;have lt5:=lt_of_heap r5) | (go_at_call 109;refine(yz _ _ _ _ _ Vs.2.1 (by omega) Ew.out).mono ?_;rintro e w6 ⟨rfl,pL⟩;obtain⟨r6,b6⟩:=lB r5 b5 pL;have acO:=adj.below pL;have f06:=aq r6 0;have f16:=aq r6 1;have k06:=ag r6 0;have SR:=ag r6 1;simp only[List.getElem?_toArray,List.getElem?_cons_zero,List.getElem?_cons_succ]at k06 SR;have lt6:=lt_of_heap r6))
 obtain⟨hu,bu⟩:=A9 r6 (.string ⟨(et (Ax.split s)).toArray⟩) (.slice rd l.length rc) b6 (Nat.le_refl _)
 have aaF:=aX.M5 r6 (.string ⟨(et (Ax.split s)).toArray⟩) (.slice rd l.length rc) acO (by decide) (by decide) (by decide)
 exact bodyPost_ret (v:=.tuple #[.agg #[.string ⟨(et (Ax.split s)).toArray⟩,.slice rd l.length rc],.int .i64 0,.int .i64 0]) (by simp[results,Tryz.results56,go_sem,ag hu]) rfl ⟨_,_,l,rfl,hl.out,aaF,bu⟩
end
/- Preds: what stands in the rules, collected. -/
section
open Go.RowKit
def pK(a:Ax.Atom):Pd.Pr:=(a.pred,a.ak.length)
def aF(l:List Pd.Pr):List Value:=l.flatMap fun p=>[.string p.1,.int .i64 p.2]
theorem lT(l:List Pd.Pr):(aF l).length=l.length*2:=by
 induction l with
 | nil=>rfl
 | cons a l ih=>simp[aF]at ih ⊢;omega
theorem yM(a b:List Pd.Pr):aF (a++b)=aF a++aF b:=by simp[aF]
theorem eH(p:Pd.Pr)(b:List Pd.Pr):aF (p::b)=.string p.1:: .int .i64 p.2::aF b:=rfl
theorem aY(l:List Pd.Pr)(k:Nat)(h:k<l.length):(aF l)[k*2]?=some (.string (l[k]).1)∧(aF l)[k*2+1]?=some (.int .i64 (l[k]).2):=by
 induction l generalizing k with
 | nil=>simp at h
 | cons a l ih=>
  cases k with
  | zero=>simp[eH]
  | succ k=>
   have:=ih k (by simpa using h)
   rw[eH,show(k+1)*2=k*2+1+1 by omega,show k*2+1+1+1=(k*2+1)+1+1 by omega]
   simpa using this
theorem Tryz.OY:(Tryz.prog.info? 112).map (fun i=>(i.zero,i.size,i.bytes))=some (some (.agg #[.string ByteArray.empty,.int .i64 0]),2,24):=by kernel_rfl
def bQ(rs:List Ax.bD):List Pd.Pr:=(rs.flatMap Ax.bD.atoms).map pK
theorem JA{l:List MR}(h:∀r,r∈l→r.body.length≤1000):(bQ (l.map MR.ay)).length≤1001*l.length:=by
 induction l with
 | nil=>simp[bQ]
 | cons r l ih=>
  have h1:=ih (fun x hx=>h x (by simp[hx]))
  have h2:=h r (by simp)
  unfold bQ at h1 ⊢
  simp only[List.map_cons,List.flatMap_cons,List.map_append,List.length_append,List.length_map]at h1 ⊢
  have e:(Ax.bD.atoms r.ay).length=r.body.length+1:=by simp[Ax.bD.atoms,MR.ay]
  rw[e,List.length_cons]
  omega
theorem FK{l:List MR}{k:Nat}(h:k<l.length):bQ ((l.take (k+1)).map MR.ay)=bQ ((l.take k).map MR.ay)++((l[k]).ay.atoms).map pK:=by
 have e:(l.take (k+1)).map MR.ay=(l.take k).map MR.ay++[(l[k]).ay]:=by
  rw[List.take_add_one,List.getElem?_eq_getElem h,List.map_append]
  rfl
 unfold bQ
 rw[e,List.flatMap_append,List.map_append]
 simp
def zJ(w wr:World)(v:Value)(P:List Pd.Pr):Prop:=wr.ownsRow w.heap.size 112 2 v P.length (aF P)∧Below w.heap.size w wr
theorem Q6{w w1 w2:World}{qd:Option Addr}{qc:Nat}{P:List Pd.Pr}{p:Pd.Pr}{v2:Value}{o1 o2:Obj}(h:zJ w w1 (.slice qd P.length qc) P)
 (aP:w2.ownsRow w.heap.size 112 2 v2 (P.length+1) (aF P++[.string p.1,.int .i64 p.2]))(bx:((w1.alloc o1).alloc o2).grownBy w2 (Value.ownBlock (.slice qd P.length qc))){w0:World}(ho:Lib.OthersKept 112 none w0 w1):
 zJ w w2 v2 (P++[p])∧Lib.OthersKept 112 none w0 w2:=by
 have hs:=h.2.size
 refine⟨⟨?_,((h.2.alloc hs _).alloc (by simp;omega) _).grown bx (by simp;omega) (fun k hk=>(h.1.lt k hk).1)⟩,((ho.alloc _).alloc _).grown bx (bK ((h.1.alloc _).alloc _))⟩
 rw[yM,List.length_append]
 exact aP
end
/- slices.Compact at predicates. -/
section
open Go.RowKit
theorem Tryz.FO:(Tryz.prog.fieldsOf 112).toList=[{name:= "Name",type:=9,offset:=0,embedded:=false,tag:= "",pkgPath:= "",byteOffset:=0},{name:= "Places",type:=3,offset:=1,embedded:=false,tag:= "",pkgPath:= "",byteOffset:=16}]:=by kernel_rfl
theorem Tryz.Gv:Tryz.prog.underlying 112=some (.struct (Tryz.prog.fieldsOf 112)):=by kernel_rfl
theorem Tryz.OG:Tryz.prog.stoodInHeld 112=false:=by kernel_rfl
theorem Tryz.JW:Tryz.prog.eqGuardType Tryz.prog.depth 112=false:=by kernel_rfl
theorem Tryz.NG(w:World):(zeroValue 112).run Tryz.prog w=.ok (.agg #[.string ByteArray.empty,.int .i64 0]) w:=by kernel_rfl
theorem oB(s t:ByteArray)(a b:Int)(w:World):(Op.equalIn 10000 112 (.agg #[.string s,.int .i64 a]) (.agg #[.string t,.int .i64 b])).run Tryz.prog w=.ok (decide (s=t∧a=b)) w:=by
 have h3:Tryz.prog.underlying 3=some (.int .i64):=Tryz.underlying3
 have h9:Tryz.prog.underlying 9=some .string:=Tryz.underlying9
 rw[run_equalIn_struct w 9999 112 _ _ Tryz.Gv Tryz.OG,Tryz.FO]
 have eL:(s=t)↔(s.toList=t.toList):=⟨fun e=>by rw[e],fun e=>Tb.toList_inj e⟩
 simp only[Op.eqFields,part,isAgg,run_underlying h3,run_underlying h9,eL]
 simp[part,isAgg,run_underlying h3,run_underlying h9,run_equalIn_int w 9998 3 .i64 .i64 a b h3,run_equalIn_string w 9998 9 s t h9]
 by_cases h1:a=b<;>by_cases h2:s.toList=t.toList<;>simp[h1,h2]
theorem AX(s t:ByteArray)(a b:Int)(w:World):(binOp .eql 112 (.agg #[.string s,.int .i64 a]) (.agg #[.string t,.int .i64 b])).run Tryz.prog w=.ok (.bool (decide (s=t∧a=b))) w:=by
 rw[run_eql_struct,oB]
 rfl
theorem A7(s t:ByteArray)(a b:Int)(w:World):(binOp .neq 112 (.agg #[.string s,.int .i64 a]) (.agg #[.string t,.int .i64 b])).run Tryz.prog w=.ok (.bool (!decide (s=t∧a=b))) w:=by
 rw[run_neq_struct,oB]
 rfl
theorem nY(P:Program)(w:World)(t ty elem:TypeId)(z:Value)(g o n c:Nat)(cur:Array Value)(T:TypeId)(cs:List Value)(hu:P.underlying t=some (.slice elem))(hz:∀w,(zeroValue elem).run P w=.ok z w)(br:(Builtin.zeroCells z.cells n).toList=cs)
 (hg:w.heap[g]?=some (.cells cur T (0,0)))(kg:o+cs.length≤cur.size)(h1:∀v∈cs,v.oneCell'=true)(hn:0<n):
 (Builtin.clear_ #[t] ty #[.slice (some ⟨g,o,none⟩) n c]).run P w=.ok (.tuple #[]) (w.setRow g (cur.toList.take o++cs++cur.toList.drop (o+cs.length)).toArray):=by
 have eL:=run_storeCells_at P g o T cs 0 cur w hg (by simpa using kg) h1
 obtain⟨m,rfl⟩:∃m,n=m+1:=⟨n-1,by omega⟩
 simp only[Nat.add_zero]at eL
 simp[Builtin.clear_,run_underlying hu,hz,br,eL]
theorem yX(R:List Pd.Pr){j:Nat}(hj:j<R.length)(x:Pd.Pr):((aF R).set (j*2) (.string x.1)).set (j*2+1) (.int .i64 x.2)=aF (R.set j x):=by
 induction R generalizing j with
 | nil=>simp at hj
 | cons a R ih=>
  cases j with
  | zero=>simp[eH]
  | succ j=>
   have:=ih (j:=j) (by simpa using hj)
   rw[show(j+1)*2+1=(j*2+1)+1+1 by omega,show(j+1)*2=j*2+1+1 by omega]
   simp only[List.set_cons_succ,eH,this]
theorem wo(R:List Pd.Pr)(j:Nat):(aF R).take (j*2)=aF (R.take j):=by
 induction R generalizing j with
 | nil=>simp[aF]
 | cons a R ih=>
  cases j with
  | zero=>simp[aF]
  | succ j=>rw[List.take_succ_cons,eH,eH,show(j+1)*2=j*2+1+1 by omega,List.take_succ_cons,List.take_succ_cons,ih]
theorem Kh(n:Nat):(Builtin.zeroCells (Value.agg #[.string ByteArray.empty,.int .i64 0]).cells n).toList.length=n*2∧∀v∈(Builtin.zeroCells (Value.agg #[.string ByteArray.empty,.int .i64 0]).cells n).toList,v.oneCell'=true:=by
 have e:(Value.agg #[.string ByteArray.empty,.int .i64 0]).cells=#[.string ByteArray.empty,.int .i64 0]:=rfl
 rw[e]
 refine⟨by simp[Builtin.zeroCells], ?_⟩
 intro v hv
 simp only[Builtin.zeroCells,Array.toList_map,List.mem_map]at hv
 obtain⟨i,_,rfl⟩:=hv
 have h2:(#[Value.string ByteArray.empty,.int .i64 0]:Array Value).size=2:=rfl
 rw[h2]
 have:i%2=0∨i%2=1:=by omega
 rcases this with h | h<;>rw[h]<;>rfl
structure oN(B:Nat)(w wr:World)(g pc:Nat)(D:List Pd.Pr)(m j:Nat)(R:List Pd.Pr):Prop where
 len:R.length=D.length
 lt:j<m
 le:m≤D.length
 U2:R.take j=Pd.mD (D.take m)
 left:R.drop (m-1)=D.drop (m-1)
 own:wr.ownsRow B 112 2 (.slice (some ⟨g,0,none⟩) D.length pc) D.length (aF R)
 kept:Kb [g] w wr
theorem oN.get{B:Nat}{w wr:World}{g pc:Nat}{D:List Pd.Pr}{m j:Nat}{R:List Pd.Pr}(h:oN B w wr g pc D m j R){i:Nat}(hi:m-1≤i)(hl:i<D.length):R[i]'(by rw[h.len];exact hl)=D[i]:=by
 have:=congrArg (fun l=>l[i-(m-1)]?) h.left
 simp only[List.getElem?_drop]at this
 rw[show m-1+(i-(m-1))=i by omega,List.getElem?_eq_getElem hl,List.getElem?_eq_getElem (by rw[h.len];exact hl)]at this
 simpa using this
theorem oN.same{B:Nat}{w wr:World}{g pc:Nat}{D:List Pd.Pr}{m j:Nat}{R:List Pd.Pr}(h:oN B w wr g pc D m j R)(hm:m<D.length)(he:D[m]=D[m-1]'(by omega)){wx:World}(hx:wx.heap=wr.heap)(hk:Kb [g] w wx):oN B w wx g pc D (m+1) j R:=by
 refine⟨h.len,by have:=h.lt;omega,hm, ?_, ?_,⟨h.own.1,by rw[hx];exact h.own.2⟩,hk⟩
 · rw[Pd.jl D hm (by have:=h.lt;omega),if_pos he]
   exact h.U2
 · have:=congrArg (fun l=>l.drop 1) h.left
   simp only[List.drop_drop]at this
   have h0:=h.lt
   rw[show m-1+1=m by omega]at this
   exact this
theorem oN.next{B:Nat}{w wr:World}{g pc:Nat}{D:List Pd.Pr}{m j:Nat}{R:List Pd.Pr}(h:oN B w wr g pc D m j R)(hm:m<D.length)(he:¬D[m]=D[m-1]'(by omega)){wx:World}(hx:wx.heap=wr.heap)(hk:Kb [g] w wx):
 oN B w ((wx.setCell ⟨g,j*2,none⟩ (.string (D[m]).1)).setCell ⟨g,j*2+1,none⟩ (.int .i64 (D[m]).2)) g pc D (m+1) (j+1) (R.set j D[m]):=by
 have hox:wx.ownsRow B 112 2 (.slice (some ⟨g,0,none⟩) D.length pc) D.length (aF R):=⟨h.own.1,by rw[hx];exact h.own.2⟩
 have aG:=h.lt
 have hlen:=h.len
 refine⟨by simpa using hlen,by omega,hm, ?_, ?_, ?_,(hk.trans (Kb.setCell wx ⟨g,j*2,none⟩ _)).trans (Kb.setCell _ ⟨g,j*2+1,none⟩ _)⟩
 · rw[Pd.jl D hm (by omega),if_neg he,←h.U2,List.take_add_one,List.getElem?_set_self (by omega),List.take_set_of_le (Nat.le_refl _)]
   rfl
 · rw[List.drop_set_of_lt (by omega)]
   have:=congrArg (fun l=>l.drop 1) h.left
   simp only[List.drop_drop]at this
   rw[show m-1+1=m by omega]at this
   exact this
 · have h1:=(World.ownsRow.stored hox (j*2) (.string (D[m]).1)).1
   have h2:=(World.ownsRow.stored h1 (j*2+1) (.int .i64 (D[m]).2)).1
   rw[yX R (by omega)]at h2
   exact h2
theorem Dy(B:Nat)(w:World)(pd:Option Addr)(pc:Nat)(D:List Pd.Pr)(au:w.ownsRow B 112 2 (.slice pd D.length pc) D.length (aF D))(hD:D.length≤2000000):
 Calls Tryz.prog 116 #[.slice pd D.length pc] w fun e w'=>e=.returned (.slice pd (Pd.mD D).length pc)∧w'.ownsRow B 112 2 (.slice pd (Pd.mD D).length pc) (Pd.mD D).length (aF (Pd.mD D))∧Kb (Value.ownBlock (.slice pd D.length pc)).toList w w':=by
 by_cases h2:D.length<2
 · have hc:Pd.mD D=D:=by
    match D,h2 with
    | [],_=>rfl
    | [x],_=>rfl
   rw[hc]
   go_enter Tryz.func116,Tryz.ntmps116
   go_wp2_with fail
   go_ret
   exact⟨rfl,au,Kb.refl _ _⟩
 · obtain⟨g,rfl,hg,ll,br⟩:=aD au (by omega)
   have heq:=AX
   have aj5:=A7
   have Aa:∀(op:BinOp) (x y:Operand) (xs ys:Array Value) (w:World),(eqGuard op 112 x y (.agg xs) (.agg ys)).run Tryz.prog w=.ok () w:=fun op x y xs ys w=>run_eqGuard_agg w op 112 x y xs ys Tryz.JW
   go_enter Tryz.func116,Tryz.ntmps116
   go_wp2_with fail
   go_loopw [3] (fun v wr=>∃k m:Nat,k+1≤D.length∧v=.int .i64 ((k:Int)+1)∧wr=w.drewN m∧Pd.mD (D.take (k+1))=D.take (k+1)) (fun v _=>D.length-(intOf v).toNat)
   case atStart=>exact⟨0,0,by omega,rfl,rfl,by rw[Pd.BV D (by omega)];cases D with | nil=>simp at h2 | cons a t=>rfl⟩
   case round=>
    obtain⟨k,m,hk,rfl,rfl,WE⟩:=hrel
    have zE:Hid (Pd.mD (D.take (k+1))=D.take (k+1)):=WE
    clear WE
    by_cases aG:k+1<D.length
    · have c0:=br _ _ (aY D (k+1) aG).1
      have c1:=br _ _ (aY D (k+1) aG).2
      have b0:=br _ _ (aY D k (by omega)).1
      have b1:=br _ _ (aY D k (by omega)).2
      generalize hx:D[k+1]=x at c0 c1
      generalize hy:D[k]=y at b0 b1
      have HX:Hid (D[k+1]=x):=hx
      have HY:Hid (D[k]=y):=hy
      clear hx hy br
      cases hv:decide (x.1=y.1∧(x.2:Int)=(y.2:Int))
      case false=>
       go_upto_region 6 with fail
       go_quiet (fail)
       go_wp2_with fail
       go_roundw
       case rel=>
        refine⟨k+1,_,by omega,by go_num,rfl, ?_⟩
        have e0:D.take (k+1+1)=D.take (k+1)++[D[k+1]]:=by rw[List.take_add_one,List.getElem?_eq_getElem aG];rfl
        rw[Pd.jl D aG (by omega),if_neg,zE.out,e0]
        · intro e
          have e2:x=y:=by rw[←HX.out,←HY.out];exact e
          subst e2
          simp at hv
       case measure=>simp[intOf];omega
      case true=>
       have QT:x=y:=by
        simp at hv
        exact Prod.ext hv.1 (by have:=hv.2;omega)
       have yk:Hid (∀q:Nat,oN B w (w.drewN q) g pc D (k+2) (k+1) D):=by
        intro q
        refine⟨rfl,by omega,aG, ?_,rfl,⟨au.1,au.2⟩,⟨rfl,rfl,rfl,Nat.le_refl _,fun _ _ _=>rfl⟩⟩
        rw[Pd.jl D aG (by omega),if_pos,zE.out]
        rw[HX.out,QT,←HY.out]
        rfl
       go_upto_region 6 with fail
       go_quiet (fail)
       go_wp2_with fail
       clear QT c0 c1 b0 b1 hv HX HY zE
       go_loopw [3,5] (fun a b wr=>∃(j q:Nat) (R:List Pd.Pr),a=.int .i64 j∧b=.int .i64 ((q:Int)+1)∧oN B w wr g pc D (k+q+2) j R) (fun _ b _=>D.length-(intOf b).toNat)
       case atStart=>exact⟨k+1,0,D,by go_num,rfl,yk.out _⟩
       case round=>
        obtain⟨j,q,R,rfl,rfl,ve⟩:=hrel
        have zE:Hid (oN B w wr g pc D (k+q+2) j R):=ve
        have hRl:=ve.len
        have Hw:=ve.lt
        have hle:=ve.le
        obtain⟨g',e0,Wn,agL,br⟩:=aD ve.own (by omega)
        obtain rfl:g=g':=by simpa using e0
        by_cases mL:k+q+2<D.length
        · have c0:=br _ _ (aY R (k+q+2) (by omega)).1
          have c1:=br _ _ (aY R (k+q+2) (by omega)).2
          have b0:=br _ _ (aY R (k+q+1) (by omega)).1
          have b1:=br _ _ (aY R (k+q+1) (by omega)).2
          rw[ve.get (by omega) mL]at c0 c1
          rw[ve.get (by omega) (show k+q+1<D.length by omega)]at b0 b1
          clear ve
          generalize hx:D[k+q+2]=x at c0 c1
          generalize hy:D[k+q+1]=y at b0 b1
          have HX:Hid (D[k+q+2]=x):=hx
          have HY:Hid (D[k+q+1]=y):=hy
          clear hx hy
          rw[show(k+q+2)*2=(k+1)*2+(q+1)*2 by omega]at c0 c1
          rw[show(k+q+1)*2=(k+1)*2+q*2 by omega]at b0 b1
          cases hv:decide (x.1=y.1∧(x.2:Int)=(y.2:Int))
          case true=>
           have HV:Hid (x=y):=by
            simp at hv
            exact Prod.ext hv.1 (by have:=hv.2;omega)
           go_upto_region 11 with fail
           go_quiet (fail)
           go_wp2_with fail
           go_roundw
           case rel=>exact⟨j,q+1,R,rfl,by go_num,zE.out.same mL (by rw[HX.out,HV.out,←HY.out];rfl) rfl ⟨zE.out.kept.os,zE.out.kept.tape,zE.out.kept.output,zE.out.kept.size,zE.out.kept.block⟩⟩
           case measure=>simp[intOf];omega
          case false=>
           have HV:Hid (¬x=y):=fun e=>by subst e;simp at hv
           have s0:∃v,wr.cell? ⟨g,j*2,none⟩=some v:=⟨_,br _ _ (aY R j (by omega)).1⟩
           have s1:∃v,wr.cell? ⟨g,j*2+1,none⟩=some v:=⟨_,br _ _ (aY R j (by omega)).2⟩
           obtain⟨v0,s0⟩:=s0
           obtain⟨v1,s1⟩:=s1
           have f0:wr.frozen? ⟨g,j*2,none⟩=false:=by
            obtain⟨cur,e⟩:=aI zE.out.own (b:=g) rfl
            simp[World.frozen?,e]
           have f1:wr.frozen? ⟨g,j*2+1,none⟩=false:=by
            obtain⟨cur,e⟩:=aI zE.out.own (b:=g) rfl
            simp[World.frozen?,e]
           clear br
           go_upto_region 11 with fail
           go_quiet (fail)
           go_wp2_with fail
           go_roundw
           case rel=>
            refine⟨j+1,q+1,R.set j x,by go_num,by go_num, ?_⟩
            have:=zE.out.next mL (by rw[HX.out];intro e;exact HV.out (e.trans HY.out)) (wx:=wr.drewN nq) rfl ⟨zE.out.kept.os,zE.out.kept.tape,zE.out.kept.output,zE.out.kept.size,zE.out.kept.block⟩
            rw[HX.out]at this
            exact this
           case measure=>simp[intOf];omega
        · have qH:k+q+2=D.length:=by omega
          rw[qH]at ve Hw
          obtain⟨cur,BQ,Cg,Gs,sN⟩:∃cur:Array Value,wr.heap[g]?=some (.cells cur 112 (0,0))∧pc≤maxLen∧cur.size=pc*2∧cur.toList.take (D.length*2)=aF R:=by
           rcases ve.own.2 with⟨e,_⟩ | ⟨g',cap,cur,e,_,q1,_,q4,q2,q3⟩
           · simp at e
           · simp only[Value.slice.injEq,Option.some.injEq,Addr.mk.injEq,and_true,true_and]at e
             obtain⟨rfl,rfl⟩:=e
             exact⟨cur,q1,q4,q2,q3⟩
          obtain⟨zs,uA⟩:∃zs,zs=(Builtin.zeroCells (Value.agg #[.string ByteArray.empty,.int .i64 0]).cells (D.length-j)).toList:=⟨_,rfl⟩
          obtain⟨ev,dY⟩:=Kh (D.length-j)
          rw[←uA]at ev dY
          obtain⟨row,bF⟩:∃row,row=(cur.toList.take (j*2)++zs++cur.toList.drop (j*2+zs.length)).toArray:=⟨_,rfl⟩
          have acN:∀ty,(Builtin.clear_ #[144] ty #[.slice (some ⟨g,j*2,none⟩) (D.length-j) (pc-j)]).run Tryz.prog wr=.ok (.tuple #[]) (wr.setRow g row):=fun ty=>by rw[bF];exact nY Tryz.prog wr 144 ty 112 _ g (j*2) (D.length-j) (pc-j) cur 112 zs Tryz.underlying144 Tryz.NG uA.symm BQ (by omega) dY (by omega)
          have sP:Hid ((wr.setRow g row).ownsRow B 112 2 (.slice (some ⟨g,0,none⟩) (Pd.mD D).length pc) (Pd.mD D).length (aF (Pd.mD D))∧Kb [g] w (wr.setRow g row)∧(Pd.mD D).length=j):=by
           subst bF
           have ht:=ve.U2
           rw[List.take_length]at ht
           have yi:(Pd.mD D).length=j:=by rw[←ht,List.length_take];omega
           have hB:B≤g:=(ve.own.lt g rfl).1
           have hmx:=be ve.own
           refine⟨⟨lT _,.inr ⟨g,pc,_,rfl,hB,bz wr g _ BQ,by omega,Cg, ?_, ?_⟩⟩,ve.kept.trans (Kb.setRow wr g _),yi⟩
           · simp[Gs,ev];omega
           · rw[yi,←ht,←wo,←sN]
             simp only[List.toList_toArray,List.append_assoc]
             rw[List.take_append_of_le_length (by simp[Gs];omega),List.take_take,List.take_take]
             congr 1
             omega
          clear ve br zE BQ Gs sN uA ev dY bF
          go_wp2_with fail
          go_ret
          exact⟨by rw[sP.out.2.2];rfl,sP.out.1,sP.out.2.1⟩
    · have qH:D.take (k+1)=D:=List.take_of_length_le (by omega)
      have HE:Hid (Pd.mD D=D):=by
       have:=zE.out
       rw[qH]at this
       exact this
      go_wp2_with fail
      go_ret
      rw[HE.out]
      exact⟨rfl,au,⟨rfl,rfl,rfl,Nat.le_refl _,fun _ _ _=>rfl⟩⟩
end
end Go.Proofs.YtdmicblafmhflaaGreatDoor
