/- Read. -/
import Derived.Test.YtdmicblafmhflaaGreatDoorC20
import Derived.Test.YtdmicblafmhflaaGreatDoorC21
import Derived.Test.YtdmicblafmhflaaGreatDoorC11
import Derived.Test.YtdmicblafmhflaaGreatDoorC00
import Derived.Test.YtdmicblafmhflaaGreatDoorC17
set_option linter.unusedSimpArgs false
set_option linter.unusedVariables false
set_option maxHeartbeats 2000000
set_option maxRecDepth 100000
namespace Go.Proofs.YtdmicblafmhflaaGreatDoor
section
open Go.RowKit
theorem G8(w:World)(pb:Nat)(tv:Value)(aa:List Ax.Tok)(nx j:Nat)(h:dg w pb tv aa nx)(hR:Hid (Ax.bM aa aa.length nx []=(none,j))):
 Calls Tryz.prog 104 #[.pointer (some ⟨pb,0,none⟩)] w fun e w'=>e=.returned (.tuple #[.slice none 0 0,.bool false])∧dg w' pb tv aa j∧w.grownBy w' (some pb):=by
 refine(zZ w pb tv aa nx h).mono ?_
 rintro e w' ⟨hp,hg,hc⟩
 rw[hR.out]at hp hc
 rcases hc with⟨v,ts,_,hn,_⟩ | ⟨rfl,_⟩
 · simp at hn
 · exact⟨rfl,hp,hg⟩
theorem kK(w:World)(pb:Nat)(tv:Value)(aa:List Ax.Tok)(nx j:Nat)(rs:List Ax.aP)(h:dg w pb tv aa nx)(hR:Hid (Ax.bM aa aa.length nx []=(some rs,j))):
 Calls Tryz.prog 104 #[.pointer (some ⟨pb,0,none⟩)] w fun e w'=>∃rd rc l,e=.returned (.tuple #[.slice rd (List.length l) rc,.bool true])∧Hid (l.map MR.ak=rs)∧dg w' pb tv aa j∧w.grownBy w' (some pb)∧w'.ownsRow 0 222 4 (.slice rd l.length rc) l.length (cI l)∧IW w' l:=by
 refine(zZ w pb tv aa nx h).mono ?_
 rintro e w' ⟨hp,hg,hc⟩
 rw[hR.out]at hp hc
 rcases hc with⟨v,l,rfl,hn,aj,cB⟩ | ⟨_,hn⟩
 · obtain⟨a,c,rfl⟩:=ah aj
   simp only[Option.some.injEq]at hn
   exact⟨a,c,l,rfl,hn.symm,hp,hg,aN aj (Nat.zero_le _),cB⟩
 · simp at hn
theorem dg.first{s:ByteArray}{w1:World}{td:Option Addr}{tc bs:Nat}(h:w1.ownsRow bs 210 3 (.slice td (Ax.split s).length tc) (Ax.split s).length (dk (Ax.split s)))(hs:s.size≤600):
 dg (w1.alloc (.cells #[.slice td (Ax.split s).length tc,.int .i64 0] 205)) w1.heap.size (.slice td (Ax.split s).length tc) (Ax.split s) 0:=
 ⟨heap_alloc_new _ _,aN (h.alloc _) (Nat.zero_le _),Ax.sV s,by have:=Ax.fT s;omega,Ax.mW s⟩
theorem gK{w w1:World}{o:Obj}(hb:Below (w.alloc o).heap.size (w.alloc o) w1):w1.heap[w.heap.size]?=some o∧Below w.heap.size w w1∧w.heap.size<w1.heap.size:=by
 have hs:=hb.size
 simp only[World.size_alloc]at hs
 exact⟨(hb.block _ (by simp)).trans (heap_alloc_new _ _),((Below.refl _ _).alloc (Nat.le_refl _) _).trans (hb.mono (by simp)),by omega⟩
theorem gU{w w1 w2:World}{o o2:Obj}(r1:w1.heap[w.heap.size]?=some o)(g1:Below w.heap.size w w1)(hg:(w1.alloc o2).grownBy w2 (some w1.heap.size)):
 w2.heap[w.heap.size]?=some o∧Below w.heap.size w w2∧w1.heap.size<w2.heap.size:=by
 have aC:=lt_of_heap r1
 have hs:=hg.size
 simp only[World.size_alloc]at hs
 refine⟨?_, ?_,by omega⟩
 · rw[hg.block _ (by simp;omega) (by simp;omega),Below.heap_alloc _ _ _ aC]
   exact r1
 · exact(g1.alloc (by omega) o2).grown hg (by simp;omega) (fun k hk=>by cases hk;omega)
theorem cz{w w2 w3:World}{o:Obj}(r2:w2.heap[w.heap.size]?=some o)(b2:Below w.heap.size w w2)(hb:Below w2.heap.size w2 w3):w3.heap[w.heap.size]?=some o∧Below w.heap.size w w3:=
 ⟨(hb.block _ (lt_of_heap r2)).trans r2,b2.trans (hb.mono b2.size)⟩
theorem fO{w w2:World}{k:Nat}{a b:Value}{T:TypeId}(r2:w2.heap[k]?=some (.cells #[a,b] T (0,0)))(c d:Value)(gw:Below w.heap.size w w2)(hk:w.heap.size≤k):
 ((w2.setCell ⟨k,0,none⟩ c).setCell ⟨k,1,none⟩ d).heap[k]?=some (.cells #[c,d] T (0,0))∧Below w.heap.size w ((w2.setCell ⟨k,0,none⟩ c).setCell ⟨k,1,none⟩ d):=by
 have h0:=heap_setCell_same (off:=0) r2 c
 have h1:=heap_setCell_same (off:=1) h0 d
 exact⟨by rw[h1];rfl,(gw.setCell (p:=⟨k,0,none⟩) hk c).setCell (p:=⟨k,1,none⟩) hk d⟩
theorem aB.rH{w:World}{rd:Option Addr}{rc:Nat}{l:List MR}{rs:List Ax.aP}(h:w.ownsRow 0 222 4 (.slice rd l.length rc) l.length (cI l))(hm:IW w l)(hl:l.map MR.ak=rs)(hf:Hid (rs.length≤1000∧∀r,r∈rs→Ax.Fits 600 1000 r)):aB w rd rc l:=by
 refine⟨h,hm,fun r hr=> ?_⟩
 have:=(hf.out.2 r.ak (by rw[←hl];exact List.mem_map.2 ⟨r,hr,rfl⟩)).1
 simpa [MR.ak]using this
theorem aB.len{l:List MR}{rs:List Ax.aP}(hl:l.map MR.ak=rs)(hf:Hid (rs.length≤1000∧∀r,r∈rs→Ax.Fits 600 1000 r)):l.length≤1000:=by
 have:=hf.out.1
 rw[←hl]at this
 simpa using this
theorem aB.cD{l:List MR}{rs:List Ax.aP}(hl:l.map MR.ak=rs)(hf:Hid (rs.length≤1000∧∀r,r∈rs→Ax.Fits 600 1000 r)):Hid (∀a,a∈(l.map MR.ak).flatMap Ax.aP.atoms→a.pred.size≤600):=by
 intro a ha
 rw[hl]at ha
 obtain⟨r,hr,ha⟩:=List.mem_flatMap.1 ha
 exact(hf.out.2 r hr).2 a ha
theorem Cc(w:World)(rd:Option Addr)(rc:Nat)(l:List MR)(p:Nat)(h:aB w rd rc l)(hp:Ax.bW 0 [] (l.map MR.ak)=some p):
 Calls Tryz.prog 106 #[.slice rd l.length rc] w fun e w'=>e=.returned (.tuple #[.int .i64 p,.bool true])∧Below w.heap.size w w':=by
 refine(ux w rd rc l h).mono ?_
 rintro e w' ⟨hb,hc⟩
 rw[hp]at hc
 rcases hc with⟨q,hq,rfl⟩ | ⟨hq,_⟩
 · simp only[Option.some.injEq]at hq;subst hq;exact⟨rfl,hb⟩
 · simp at hq
theorem eS(w:World)(rd:Option Addr)(rc:Nat)(l:List MR)(h:aB w rd rc l)(hp:Ax.bW 0 [] (l.map MR.ak)=none):
 Calls Tryz.prog 106 #[.slice rd l.length rc] w fun e w'=>e=.returned (.tuple #[.int .i64 0,.bool false])∧Below w.heap.size w w':=by
 refine(ux w rd rc l h).mono ?_
 rintro e w' ⟨hb,hc⟩
 rw[hp]at hc
 rcases hc with⟨q,hq,_⟩ | ⟨_,rfl⟩
 · simp at hq
 · exact⟨rfl,hb⟩
theorem zL(w:World)(rd:Option Addr)(rc:Nat)(l:List MR)(p:Nat)(h:aB w rd rc l)(hp:Ax.b7 (l.map MR.ak)=some p):
 Calls Tryz.prog 108 #[.slice rd l.length rc] w fun e w'=>e=.returned (.tuple #[.int .i64 p,.bool true])∧Below w.heap.size w w':=by
 refine(rr w rd rc l h).mono ?_
 rintro e w' ⟨hb,hc⟩
 rw[hp]at hc
 rcases hc with⟨q,hq,rfl⟩ | ⟨hq,_⟩
 · simp only[Option.some.injEq]at hq;subst hq;exact⟨rfl,hb⟩
 · simp at hq
theorem gf(w:World)(rd:Option Addr)(rc:Nat)(l:List MR)(h:aB w rd rc l)(hp:Ax.b7 (l.map MR.ak)=none):
 Calls Tryz.prog 108 #[.slice rd l.length rc] w fun e w'=>e=.returned (.tuple #[.int .i64 0,.bool false])∧Below w.heap.size w w':=by
 refine(rr w rd rc l h).mono ?_
 rintro e w' ⟨hb,hc⟩
 rw[hp]at hc
 rcases hc with⟨q,hq,_⟩ | ⟨_,rfl⟩
 · simp at hq
 · exact⟨rfl,hb⟩
theorem vB(w:World)(rd:Option Addr)(rc:Nat)(l:List MR)(p:Nat)(h:aB w rd rc l)(wu:l.length≤1000)(l6:Hid (∀a,a∈(l.map MR.ak).flatMap Ax.aP.atoms→a.pred.size≤600))(hp:Ax.du [] ((l.map MR.ak).flatMap Ax.aP.atoms)=some p):
 Calls Tryz.prog 107 #[.slice rd l.length rc] w fun e w'=>e=.returned (.tuple #[.int .i64 p,.bool true])∧Below w.heap.size w w':=by
 refine(pg w rd rc l h wu l6.out).mono ?_
 rintro e w' ⟨hb,hc⟩
 rw[hp]at hc
 rcases hc with⟨q,hq,rfl⟩ | ⟨hq,_⟩
 · simp only[Option.some.injEq]at hq;subst hq;exact⟨rfl,hb⟩
 · simp at hq
theorem jP(w:World)(rd:Option Addr)(rc:Nat)(l:List MR)(h:aB w rd rc l)(wu:l.length≤1000)(l6:Hid (∀a,a∈(l.map MR.ak).flatMap Ax.aP.atoms→a.pred.size≤600))(hp:Ax.du [] ((l.map MR.ak).flatMap Ax.aP.atoms)=none):
 Calls Tryz.prog 107 #[.slice rd l.length rc] w fun e w'=>e=.returned (.tuple #[.int .i64 0,.bool false])∧Below w.heap.size w w':=by
 refine(pg w rd rc l h wu l6.out).mono ?_
 rintro e w' ⟨hb,hc⟩
 rw[hp]at hc
 rcases hc with⟨q,hq,_⟩ | ⟨_,rfl⟩
 · simp at hq
 · exact⟨rfl,hb⟩
theorem QY(s:ByteArray)(w:World)(hs:s.size≤maxLen)(h:600<s.size):
 Calls Tryz.prog 56 #[.string s] w fun e w'=>e=.returned (.tuple #[.agg #[.string ⟨#[]⟩,.slice none 0 0],.int .i64 1,.int .i64 0])∧Below w.heap.size w w':=by
 unfold maxLen at hs
 go_enter Tryz.func56,Tryz.ntmps56
 go_wp2_with fail
 exact bodyPost_ret (v:=.tuple #[.agg #[.string ⟨#[]⟩,.slice none 0 0],.int .i64 1,.int .i64 0]) (by simp[results,Tryz.results56,go_sem]) rfl ⟨rfl,(Below.refl _ _).alloc (Nat.le_refl _) _⟩
theorem R5(s:ByteArray)(w:World)(cr:s.size≤600)(j:Nat)(HR:Hid (Ax.bM (Ax.split s) (Ax.split s).length 0 []=(none,j)))(t:Ax.Tok)(HT:Hid ((Ax.split s)[j]?=some t)):
 Calls Tryz.prog 56 #[.string s] w fun e w'=>e=.returned (.tuple #[.agg #[.string ⟨#[]⟩,.slice none 0 0],.int .i64 2,.int .i64 t.at_])∧Below w.heap.size w w':=by
 have sN:¬(600:Int)<(s.size:Int):=by omega
 have ur:=Tryz.pC
 go_enter Tryz.func56,Tryz.ntmps56
 go_wp2_with (first | (go_at_call 102;refine(gY s _ (by omega)).mono ?_;rintro e w0 ⟨rfl,bK⟩) | (go_at_call 103;refine(kq s _ (by omega)).mono ?_;rintro e w1 ⟨v1,rfl,bj,bk⟩;obtain⟨td,tc,rfl⟩:=ah bj;obtain⟨r1,J5,RM⟩:=gK (bK.trans (bk.mono bK.size))) | (go_at_call 104;have xO:=dg.first (s:=s) (td:=td) (tc:=tc) bj cr;refine(G8 _ _ _ _ _ _ xO HR).mono ?_;rintro e w2 ⟨rfl,iI,dL⟩;obtain⟨r2,b2,GM⟩:=gU r1 J5 dL;have Tz:=ae r2 0;have f12:=ae r2 1;have EV:=ab r2 0;have yl:=ab r2 1;simp only[List.getElem?_toArray,List.getElem?_cons_zero,List.getElem?_cons_succ]at EV yl;have Tp:=lt_of_heap r2) | (go_at_call 105;refine(dY _ _ _ _ _ iI _ HT).mono ?_;rintro e w3 ⟨rfl,eB⟩;obtain⟨r3,b3⟩:=cz r2 b2 eB;have Q2:=ae r3 0;have f13:=ae r3 1;have CR:=ab r3 0;have vA:=ab r3 1;simp only[List.getElem?_toArray,List.getElem?_cons_zero,List.getElem?_cons_succ]at CR vA;have YL:=lt_of_heap r3))
 obtain⟨hu,bu⟩:=fO r3 (.string ⟨#[]⟩) (.slice none 0 0) b3 (Nat.le_refl _)
 exact bodyPost_ret (v:=.tuple #[.agg #[.string ⟨#[]⟩,.slice none 0 0],.int .i64 2,.int .i64 t.at_]) (by simp[results,Tryz.results56,go_sem,ab hu]) rfl ⟨rfl,bu⟩
end
/- Read, a program by its form. -/
section
open Go.RowKit
theorem RQ(s:ByteArray)(w:World)(cr:s.size≤600)(rs:List Ax.aP)(j:Nat)(HR:Hid (Ax.bM (Ax.split s) (Ax.split s).length 0 []=(some rs,j)))(HF:Hid (rs.length≤1000∧∀r,r∈rs→Ax.Fits 600 1000 r))(p:Nat)(H3:Hid (Ax.bW 0 [] rs=some p)):
 Calls Tryz.prog 56 #[.string s] w fun e w'=>e=.returned (.tuple #[.agg #[.string ⟨#[]⟩,.slice none 0 0],.int .i64 3,.int .i64 p])∧Below w.heap.size w w':=by
 have sN:¬(600:Int)<(s.size:Int):=by omega
 have ur:=Tryz.pC
 go_enter Tryz.func56,Tryz.ntmps56
 go_wp2_with (first | (go_at_call 102;refine(gY s _ (by omega)).mono ?_;rintro e w0 ⟨rfl,bK⟩) | (go_at_call 103;refine(kq s _ (by omega)).mono ?_;rintro e w1 ⟨v1,rfl,bj,bk⟩;obtain⟨td,tc,rfl⟩:=ah bj;obtain⟨r1,J5,RM⟩:=gK (bK.trans (bk.mono bK.size))) | (go_at_call 104;have xO:=dg.first (s:=s) (td:=td) (tc:=tc) bj cr;refine(kK _ _ _ _ _ _ _ xO HR).mono ?_;rintro e w2 ⟨rd,rc,l,rfl,hl,iI,dL,mO,qU⟩;have sq:=aB.rH mO qU hl.out HF;obtain⟨r2,b2,GM⟩:=gU r1 J5 dL;have Tz:=ae r2 0;have f12:=ae r2 1;have EV:=ab r2 0;have yl:=ab r2 1;simp only[List.getElem?_toArray,List.getElem?_cons_zero,List.getElem?_cons_succ]at EV yl;have Tp:=lt_of_heap r2) | (go_at_call 106;refine(Cc _ _ _ _ p sq (by rw[hl.out];exact H3.out)).mono ?_;rintro e w3 ⟨rfl,eB⟩;obtain⟨r3,b3⟩:=cz r2 b2 eB;have qz:=sq.below eB;have Q2:=ae r3 0;have f13:=ae r3 1;have CR:=ab r3 0;have vA:=ab r3 1;simp only[List.getElem?_toArray,List.getElem?_cons_zero,List.getElem?_cons_succ]at CR vA;have YL:=lt_of_heap r3))
 obtain⟨hu,bu⟩:=fO r3 (.string ⟨#[]⟩) (.slice none 0 0) b3 (Nat.le_refl _)
 exact bodyPost_ret (v:=.tuple #[.agg #[.string ⟨#[]⟩,.slice none 0 0],.int .i64 3,.int .i64 p]) (by simp[results,Tryz.results56,go_sem,ab hu]) rfl ⟨rfl,bu⟩
theorem Qw(s:ByteArray)(w:World)(cr:s.size≤600)(rs:List Ax.aP)(j:Nat)(HR:Hid (Ax.bM (Ax.split s) (Ax.split s).length 0 []=(some rs,j)))(HF:Hid (rs.length≤1000∧∀r,r∈rs→Ax.Fits 600 1000 r))(H3:Hid (Ax.bW 0 [] rs=none))(p:Nat)(H4:Hid (Ax.du [] (rs.flatMap Ax.aP.atoms)=some p)):
 Calls Tryz.prog 56 #[.string s] w fun e w'=>e=.returned (.tuple #[.agg #[.string ⟨#[]⟩,.slice none 0 0],.int .i64 4,.int .i64 p])∧Below w.heap.size w w':=by
 have sN:¬(600:Int)<(s.size:Int):=by omega
 have ur:=Tryz.pC
 go_enter Tryz.func56,Tryz.ntmps56
 go_wp2_with (first | (go_at_call 102;refine(gY s _ (by omega)).mono ?_;rintro e w0 ⟨rfl,bK⟩) | (go_at_call 103;refine(kq s _ (by omega)).mono ?_;rintro e w1 ⟨v1,rfl,bj,bk⟩;obtain⟨td,tc,rfl⟩:=ah bj;obtain⟨r1,J5,RM⟩:=gK (bK.trans (bk.mono bK.size))) | (go_at_call 104;have xO:=dg.first (s:=s) (td:=td) (tc:=tc) bj cr;refine(kK _ _ _ _ _ _ _ xO HR).mono ?_;rintro e w2 ⟨rd,rc,l,rfl,hl,iI,dL,mO,qU⟩;have wu:=aB.len hl.out HF;have l6:=aB.cD hl.out HF;have sq:=aB.rH mO qU hl.out HF;obtain⟨r2,b2,GM⟩:=gU r1 J5 dL;have Tz:=ae r2 0;have f12:=ae r2 1;have EV:=ab r2 0;have yl:=ab r2 1;simp only[List.getElem?_toArray,List.getElem?_cons_zero,List.getElem?_cons_succ]at EV yl;have Tp:=lt_of_heap r2) | (go_at_call 106;refine(eS _ _ _ _ sq (by rw[hl.out];exact H3.out)).mono ?_;rintro e w3 ⟨rfl,eB⟩;obtain⟨r3,b3⟩:=cz r2 b2 eB;have qz:=sq.below eB;have Q2:=ae r3 0;have f13:=ae r3 1;have CR:=ab r3 0;have vA:=ab r3 1;simp only[List.getElem?_toArray,List.getElem?_cons_zero,List.getElem?_cons_succ]at CR vA;have YL:=lt_of_heap r3) | (go_at_call 107;refine(vB _ _ _ _ p qz wu l6 (by rw[hl.out];exact H4.out)).mono ?_;rintro e w4 ⟨rfl,lZ⟩;obtain⟨r4,b4⟩:=cz r3 b3 lZ;have ya:=qz.below lZ;have PO:=ae r4 0;have f14:=ae r4 1;have zA:=ab r4 0;have tH:=ab r4 1;simp only[List.getElem?_toArray,List.getElem?_cons_zero,List.getElem?_cons_succ]at zA tH;have lt4:=lt_of_heap r4))
 obtain⟨hu,bu⟩:=fO r4 (.string ⟨#[]⟩) (.slice none 0 0) b4 (Nat.le_refl _)
 exact bodyPost_ret (v:=.tuple #[.agg #[.string ⟨#[]⟩,.slice none 0 0],.int .i64 4,.int .i64 p]) (by simp[results,Tryz.results56,go_sem,ab hu]) rfl ⟨rfl,bu⟩
theorem RR(s:ByteArray)(w:World)(cr:s.size≤600)(rs:List Ax.aP)(j:Nat)(HR:Hid (Ax.bM (Ax.split s) (Ax.split s).length 0 []=(some rs,j)))(HF:Hid (rs.length≤1000∧∀r,r∈rs→Ax.Fits 600 1000 r))(H3:Hid (Ax.bW 0 [] rs=none))(H4:Hid (Ax.du [] (rs.flatMap Ax.aP.atoms)=none))(p:Nat)(H5:Hid (Ax.b7 rs=some p)):
 Calls Tryz.prog 56 #[.string s] w fun e w'=>e=.returned (.tuple #[.agg #[.string ⟨#[]⟩,.slice none 0 0],.int .i64 5,.int .i64 p])∧Below w.heap.size w w':=by
 have sN:¬(600:Int)<(s.size:Int):=by omega
 have ur:=Tryz.pC
 go_enter Tryz.func56,Tryz.ntmps56
 go_wp2_with (first | (go_at_call 102;refine(gY s _ (by omega)).mono ?_;rintro e w0 ⟨rfl,bK⟩) | (go_at_call 103;refine(kq s _ (by omega)).mono ?_;rintro e w1 ⟨v1,rfl,bj,bk⟩;obtain⟨td,tc,rfl⟩:=ah bj;obtain⟨r1,J5,RM⟩:=gK (bK.trans (bk.mono bK.size))) | (go_at_call 104;have xO:=dg.first (s:=s) (td:=td) (tc:=tc) bj cr;refine(kK _ _ _ _ _ _ _ xO HR).mono ?_;rintro e w2 ⟨rd,rc,l,rfl,hl,iI,dL,mO,qU⟩;have wu:=aB.len hl.out HF;have l6:=aB.cD hl.out HF;have sq:=aB.rH mO qU hl.out HF;obtain⟨r2,b2,GM⟩:=gU r1 J5 dL;have Tz:=ae r2 0;have f12:=ae r2 1;have EV:=ab r2 0;have yl:=ab r2 1;simp only[List.getElem?_toArray,List.getElem?_cons_zero,List.getElem?_cons_succ]at EV yl;have Tp:=lt_of_heap r2) | (go_at_call 106;refine(eS _ _ _ _ sq (by rw[hl.out];exact H3.out)).mono ?_;rintro e w3 ⟨rfl,eB⟩;obtain⟨r3,b3⟩:=cz r2 b2 eB;have qz:=sq.below eB;have Q2:=ae r3 0;have f13:=ae r3 1;have CR:=ab r3 0;have vA:=ab r3 1;simp only[List.getElem?_toArray,List.getElem?_cons_zero,List.getElem?_cons_succ]at CR vA;have YL:=lt_of_heap r3) | (go_at_call 107;refine(jP _ _ _ _ qz wu l6 (by rw[hl.out];exact H4.out)).mono ?_;rintro e w4 ⟨rfl,lZ⟩;obtain⟨r4,b4⟩:=cz r3 b3 lZ;have ya:=qz.below lZ;have PO:=ae r4 0;have f14:=ae r4 1;have zA:=ab r4 0;have tH:=ab r4 1;simp only[List.getElem?_toArray,List.getElem?_cons_zero,List.getElem?_cons_succ]at zA tH;have lt4:=lt_of_heap r4) | (go_at_call 108;refine(zL _ _ _ _ p ya (by rw[hl.out];exact H5.out)).mono ?_;rintro e w5 ⟨rfl,ls⟩;obtain⟨r5,b5⟩:=cz r4 b4 ls;have Z4:=ae r5 0;have f15:=ae r5 1;have QW:=ab r5 0;have Gj:=ab r5 1;simp only[List.getElem?_toArray,List.getElem?_cons_zero,List.getElem?_cons_succ]at QW Gj;have lt5:=lt_of_heap r5))
 obtain⟨hu,bu⟩:=fO r5 (.string ⟨#[]⟩) (.slice none 0 0) b5 (Nat.le_refl _)
 exact bodyPost_ret (v:=.tuple #[.agg #[.string ⟨#[]⟩,.slice none 0 0],.int .i64 5,.int .i64 p]) (by simp[results,Tryz.results56,go_sem,ab hu]) rfl ⟨rfl,bu⟩
end
/- Read and Check, whole. -/
section
open Go.RowKit
theorem Qb(s:ByteArray)(w:World)(cr:s.size≤600)(rs:List Ax.aP)(j:Nat)(HR:Hid (Ax.bM (Ax.split s) (Ax.split s).length 0 []=(some rs,j)))(HF:Hid (rs.length≤1000∧∀r,r∈rs→Ax.Fits 600 1000 r))(H3:Hid (Ax.bW 0 [] rs=none))(H4:Hid (Ax.du [] (rs.flatMap Ax.aP.atoms)=none))(H5:Hid (Ax.b7 rs=none)):
 Calls Tryz.prog 56 #[.string s] w fun e w'=>∃rd n rc,e=.returned (.tuple #[.agg #[.string ⟨(dy (Ax.split s)).toArray⟩,.slice rd n rc],.int .i64 0,.int .i64 0])∧Below w.heap.size w w':=by
 have sN:¬(600:Int)<(s.size:Int):=by omega
 have Sf:=Ax.fT s
 have vh:Hid (∀t,t∈Ax.split s→t.text.size≤600):=fun t ht=>Nat.le_trans (Ax.jf s t ht) cr
 go_enter Tryz.func56,Tryz.ntmps56
 go_wp2_with (first | (go_at_call 102;refine(gY s _ (by omega)).mono ?_;rintro e w0 ⟨rfl,bK⟩) | (go_at_call 103;refine(kq s _ (by omega)).mono ?_;rintro e w1 ⟨v1,rfl,bj,bk⟩;obtain⟨td,tc,rfl⟩:=ah bj;obtain⟨r1,J5,RM⟩:=gK (bK.trans (bk.mono bK.size))) | (go_at_call 104;have xO:=dg.first (s:=s) (td:=td) (tc:=tc) bj cr;refine(kK _ _ _ _ _ _ _ xO HR).mono ?_;rintro e w2 ⟨rd,rc,l,rfl,hl,iI,dL,mO,qU⟩;have wu:=aB.len hl.out HF;have l6:=aB.cD hl.out HF;have sq:=aB.rH mO qU hl.out HF;obtain⟨r2,b2,GM⟩:=gU r1 J5 dL;have Tz:=ae r2 0;have f12:=ae r2 1;have EV:=ab r2 0;have yl:=ab r2 1;simp only[List.getElem?_toArray,List.getElem?_cons_zero,List.getElem?_cons_succ]at EV yl;have Tp:=lt_of_heap r2) | (go_at_call 106;refine(eS _ _ _ _ sq (by rw[hl.out];exact H3.out)).mono ?_;rintro e w3 ⟨rfl,eB⟩;obtain⟨r3,b3⟩:=cz r2 b2 eB;have qz:=sq.below eB;have Q2:=ae r3 0;have f13:=ae r3 1;have CR:=ab r3 0;have vA:=ab r3 1;simp only[List.getElem?_toArray,List.getElem?_cons_zero,List.getElem?_cons_succ]at CR vA;have YL:=lt_of_heap r3) | (go_at_call 107;refine(jP _ _ _ _ qz wu l6 (by rw[hl.out];exact H4.out)).mono ?_;rintro e w4 ⟨rfl,lZ⟩;obtain⟨r4,b4⟩:=cz r3 b3 lZ;have ya:=qz.below lZ;have PO:=ae r4 0;have f14:=ae r4 1;have zA:=ab r4 0;have tH:=ab r4 1;simp only[List.getElem?_toArray,List.getElem?_cons_zero,List.getElem?_cons_succ]at zA tH;have lt4:=lt_of_heap r4) | (go_at_call 108;refine(gf _ _ _ _ ya (by rw[hl.out];exact H5.out)).mono ?_;rintro e w5 ⟨rfl,ls⟩;obtain⟨r5,b5⟩:=cz r4 b4 ls;have O6:=((iI.below eB).below lZ).below ls;have q0:=ab O6.1 0;simp only[List.getElem?_toArray,List.getElem?_cons_zero]at q0;have q1:=lt_of_heap O6.1;have Z4:=ae r5 0;have f15:=ae r5 1;have QW:=ab r5 0;have Gj:=ab r5 1;simp only[List.getElem?_toArray,List.getElem?_cons_zero,List.getElem?_cons_succ]at QW Gj;have lt5:=lt_of_heap r5) | (go_at_call 109;refine(p7 _ _ _ _ _ O6.2.1 (by omega) vh.out).mono ?_;rintro e w6 ⟨rfl,oF⟩;obtain⟨r6,b6⟩:=cz r5 b5 oF;have f06:=ae r6 0;have f16:=ae r6 1;have k06:=ab r6 0;have Qo:=ab r6 1;simp only[List.getElem?_toArray,List.getElem?_cons_zero,List.getElem?_cons_succ]at k06 Qo;have lt6:=lt_of_heap r6))
 obtain⟨hu,bu⟩:=fO r6 (.string ⟨(dy (Ax.split s)).toArray⟩) (.slice rd l.length rc) b6 (Nat.le_refl _)
 exact bodyPost_ret (v:=.tuple #[.agg #[.string ⟨(dy (Ax.split s)).toArray⟩,.slice rd l.length rc],.int .i64 0,.int .i64 0]) (by simp[results,Tryz.results56,go_sem,ab hu]) rfl ⟨_,_,_,rfl,bu⟩
theorem OO(s:ByteArray)(w:World)(hs:s.size≤maxLen):
 Calls Tryz.prog 56 #[.string s] w fun e w'=>∃rd n rc,e=.returned (.tuple #[.agg #[.string (Ax.read s).1,.slice rd n rc],.int .i64 (Ax.read s).2.1,.int .i64 (Ax.read s).2.2])∧Below w.heap.size w w':=by
 by_cases sN:600<s.size
 · rw[Ax.NX sN]
   refine(QY s w hs sN).mono ?_
   rintro e w' ⟨rfl,hb⟩
   exact⟨_,_,_,rfl,hb⟩
 have cr:s.size≤600:=by omega
 have Sf:=Ax.fT s
 rcases hR:Ax.bM (Ax.split s) (Ax.split s).length 0 []with⟨_ | rs,j⟩
 · have hj:=Ax.s6 (Ax.mW s) _ _ _ (Ax.sV s) hR
   have ht:(Ax.split s)[j]?=some (Ax.split s)[j]:=List.getElem?_eq_getElem hj
   rw[Ax.Pe sN hR ht]
   refine(R5 s w cr j hR _ ht).mono ?_
   rintro e w' ⟨rfl,hb⟩
   exact⟨_,_,_,rfl,hb⟩
 · have jF:=Ax.lH (M:=600) (fun t ht=>Nat.le_trans (Ax.jf s t ht) cr) _ _ _ (fun _ h=>by cases h) hR
   have HF:rs.length≤1000∧∀r,r∈rs→Ax.Fits 600 1000 r:=by
    refine⟨by have:=jF.2;simp only[List.length_nil,Nat.zero_add]at this;omega,fun r hr=> ?_⟩
    have:=jF.1 r hr
    exact⟨by have:=this.1;omega,this.2⟩
   cases h3:Ax.bW 0 [] rs with
   | some p=>
    rw[Ax.Gu sN hR h3]
    refine(RQ s w cr rs j hR HF p h3).mono ?_
    rintro e w' ⟨rfl,hb⟩
    exact⟨_,_,_,rfl,hb⟩
   | none=>
    cases h4:Ax.du [] (rs.flatMap Ax.aP.atoms)with
    | some p=>
     rw[Ax.Gz sN hR h3 h4]
     refine(Qw s w cr rs j hR HF h3 p h4).mono ?_
     rintro e w' ⟨rfl,hb⟩
     exact⟨_,_,_,rfl,hb⟩
    | none=>
     cases h5:Ax.b7 rs with
     | some p=>
      rw[Ax.Gx sN hR h3 h4 h5]
      refine(RR s w cr rs j hR HF h3 h4 p h5).mono ?_
      rintro e w' ⟨rfl,hb⟩
      exact⟨_,_,_,rfl,hb⟩
     | none=>
      rw[Ax.B2 sN hR h3 h4 h5]
      refine(Qb s w cr rs j hR HF h3 h4 h5).mono ?_
      rintro e w' ⟨rd,n,rc,rfl,hb⟩
      exact⟨rd,n,rc,rfl,hb⟩
end
/- Read of a program's text hands on its rules. -/
section
open Go.RowKit
theorem aB.kept{w w':World}{S:List Nat}{rd:Option Addr}{rc:Nat}{l:List MR}(h:aB w rd rc l)(hk:Kb S w w')(hS:∀b cur U,b∈S→w.heap[b]?=some (.cells cur U (0,0))→U≠222∧U≠219∧U≠310):aB w' rd rc l:=by
 have hT:∀x:MA,MA.ok w x→MA.ok w' x:=fun x hx=>by
  refine hk.row hx ?_
  intro b hb hm
  obtain⟨cur,e⟩:=ay hx hb
  exact(hS b cur _ hm e).2.2 rfl
 refine⟨hk.row h.1 ?_,fun r hr=>⟨hT _ (h.2.1 r hr).1,hk.row (h.2.1 r hr).2.1 ?_,fun x hx=>hT x ((h.2.1 r hr).2.2 x hx)⟩,h.2.2⟩
 · intro b hb hm
   obtain⟨cur,e⟩:=ay h.1 hb
   exact(hS b cur _ hm e).1 rfl
 · intro b hb hm
   obtain⟨cur,e⟩:=ay (h.2.1 r hr).2.1 hb
   exact(hS b cur _ hm e).2.1 rfl
theorem aB.Mr{w2:World}{k:Nat}{a b:Value}{T:TypeId}(r2:w2.heap[k]?=some (.cells #[a,b] T (0,0)))(c d:Value){rd:Option Addr}{rc:Nat}{l:List MR}(h:aB w2 rd rc l)(h1:T≠222)(h2:T≠219)(h3:T≠310):aB ((w2.setCell ⟨k,0,none⟩ c).setCell ⟨k,1,none⟩ d) rd rc l:=by
 refine h.kept ((Kb.setCell w2 ⟨k,0,none⟩ c).trans (Kb.setCell _ ⟨k,1,none⟩ d)) ?_
 intro q cur U hq e
 simp only[List.mem_singleton]at hq
 rw[hq,r2]at e
 simp only[Option.some.injEq,Obj.cells.injEq]at e
 rw[←e.2.1]
 exact⟨h1,h2,h3⟩
theorem Iv(s:ByteArray)(w:World)(cr:s.size≤600)(rs:List Ax.aP)(j:Nat)(HR:Hid (Ax.bM (Ax.split s) (Ax.split s).length 0 []=(some rs,j)))(HF:Hid (rs.length≤1000∧∀r,r∈rs→Ax.Fits 600 1000 r))(H3:Hid (Ax.bW 0 [] rs=none))(H4:Hid (Ax.du [] (rs.flatMap Ax.aP.atoms)=none))(H5:Hid (Ax.b7 rs=none)):
 Calls Tryz.prog 56 #[.string s] w fun e w'=>∃rd rc l,e=.returned (.tuple #[.agg #[.string ⟨(dy (Ax.split s)).toArray⟩,.slice rd l.length rc],.int .i64 0,.int .i64 0])∧l.map MR.ak=rs∧aB w' rd rc l∧Below w.heap.size w w':=by
 have sN:¬(600:Int)<(s.size:Int):=by omega
 have Sf:=Ax.fT s
 have vh:Hid (∀t,t∈Ax.split s→t.text.size≤600):=fun t ht=>Nat.le_trans (Ax.jf s t ht) cr
 go_enter Tryz.func56,Tryz.ntmps56
 go_wp2_with (first | (go_at_call 102;refine(gY s _ (by omega)).mono ?_;rintro e w0 ⟨rfl,bK⟩) | (go_at_call 103;refine(kq s _ (by omega)).mono ?_;rintro e w1 ⟨v1,rfl,bj,bk⟩;obtain⟨td,tc,rfl⟩:=ah bj;obtain⟨r1,J5,RM⟩:=gK (bK.trans (bk.mono bK.size))) | (go_at_call 104;have xO:=dg.first (s:=s) (td:=td) (tc:=tc) bj cr;refine(kK _ _ _ _ _ _ _ xO HR).mono ?_;rintro e w2 ⟨rd,rc,l,rfl,hl,iI,dL,mO,qU⟩;have wu:=aB.len hl.out HF;have l6:=aB.cD hl.out HF;have sq:=aB.rH mO qU hl.out HF;obtain⟨r2,b2,GM⟩:=gU r1 J5 dL;have Tz:=ae r2 0;have f12:=ae r2 1;have EV:=ab r2 0;have yl:=ab r2 1;simp only[List.getElem?_toArray,List.getElem?_cons_zero,List.getElem?_cons_succ]at EV yl;have Tp:=lt_of_heap r2) | (go_at_call 106;refine(eS _ _ _ _ sq (by rw[hl.out];exact H3.out)).mono ?_;rintro e w3 ⟨rfl,eB⟩;obtain⟨r3,b3⟩:=cz r2 b2 eB;have qz:=sq.below eB;have Q2:=ae r3 0;have f13:=ae r3 1;have CR:=ab r3 0;have vA:=ab r3 1;simp only[List.getElem?_toArray,List.getElem?_cons_zero,List.getElem?_cons_succ]at CR vA;have YL:=lt_of_heap r3) | (go_at_call 107;refine(jP _ _ _ _ qz wu l6 (by rw[hl.out];exact H4.out)).mono ?_;rintro e w4 ⟨rfl,lZ⟩;obtain⟨r4,b4⟩:=cz r3 b3 lZ;have ya:=qz.below lZ;have PO:=ae r4 0;have f14:=ae r4 1;have zA:=ab r4 0;have tH:=ab r4 1;simp only[List.getElem?_toArray,List.getElem?_cons_zero,List.getElem?_cons_succ]at zA tH;have lt4:=lt_of_heap r4) | (go_at_call 108;refine(gf _ _ _ _ ya (by rw[hl.out];exact H5.out)).mono ?_;rintro e w5 ⟨rfl,ls⟩;obtain⟨r5,b5⟩:=cz r4 b4 ls;have O6:=((iI.below eB).below lZ).below ls;have acJ:=ya.below ls;have q0:=ab O6.1 0;simp only[List.getElem?_toArray,List.getElem?_cons_zero]at q0;have q1:=lt_of_heap O6.1;have Z4:=ae r5 0;have f15:=ae r5 1;have QW:=ab r5 0;have Gj:=ab r5 1;simp only[List.getElem?_toArray,List.getElem?_cons_zero,List.getElem?_cons_succ]at QW Gj;have lt5:=lt_of_heap r5) | (go_at_call 109;refine(p7 _ _ _ _ _ O6.2.1 (by omega) vh.out).mono ?_;rintro e w6 ⟨rfl,oF⟩;obtain⟨r6,b6⟩:=cz r5 b5 oF;have acC:=acJ.below oF;have f06:=ae r6 0;have f16:=ae r6 1;have k06:=ab r6 0;have Qo:=ab r6 1;simp only[List.getElem?_toArray,List.getElem?_cons_zero,List.getElem?_cons_succ]at k06 Qo;have lt6:=lt_of_heap r6))
 obtain⟨hu,bu⟩:=fO r6 (.string ⟨(dy (Ax.split s)).toArray⟩) (.slice rd l.length rc) b6 (Nat.le_refl _)
 have abH:=aB.Mr r6 (.string ⟨(dy (Ax.split s)).toArray⟩) (.slice rd l.length rc) acC (by decide) (by decide) (by decide)
 exact bodyPost_ret (v:=.tuple #[.agg #[.string ⟨(dy (Ax.split s)).toArray⟩,.slice rd l.length rc],.int .i64 0,.int .i64 0]) (by simp[results,Tryz.results56,go_sem,ab hu]) rfl ⟨_,_,l,rfl,hl.out,abH,bu⟩
end
/- Preds: what stands in the rules, collected. -/
section
open Go.RowKit
def oc(a:Ax.Atom):Pd.Pr:=(a.pred,a.ag.length)
def au(l:List Pd.Pr):List Value:=l.flatMap fun p=>[.string p.1,.int .i64 p.2]
theorem lP(l:List Pd.Pr):(au l).length=l.length*2:=by
 induction l with
 | nil=>rfl
 | cons a l ih=>simp[au]at ih ⊢;omega
theorem zh(a b:List Pd.Pr):au (a++b)=au a++au b:=by simp[au]
theorem eG(p:Pd.Pr)(b:List Pd.Pr):au (p::b)=.string p.1:: .int .i64 p.2::au b:=rfl
theorem aU(l:List Pd.Pr)(k:Nat)(h:k<l.length):(au l)[k*2]?=some (.string (l[k]).1)∧(au l)[k*2+1]?=some (.int .i64 (l[k]).2):=by
 induction l generalizing k with
 | nil=>simp at h
 | cons a l ih=>
  cases k with
  | zero=>simp[eG]
  | succ k=>
   have:=ih k (by simpa using h)
   rw[eG,show(k+1)*2=k*2+1+1 by omega,show k*2+1+1+1=(k*2+1)+1+1 by omega]
   simpa using this
theorem Tryz.Oy:(Tryz.prog.info? 112).map (fun i=>(i.zero,i.size,i.bytes))=some (some (.agg #[.string ByteArray.empty,.int .i64 0]),2,24):=by kernel_rfl
def aS(rs:List Ax.aP):List Pd.Pr:=(rs.flatMap Ax.aP.atoms).map oc
theorem Ky{l:List MR}(h:∀r,r∈l→r.body.length≤1000):(aS (l.map MR.ak)).length≤1001*l.length:=by
 induction l with
 | nil=>simp[aS]
 | cons r l ih=>
  have h1:=ih (fun x hx=>h x (by simp[hx]))
  have h2:=h r (by simp)
  unfold aS at h1 ⊢
  simp only[List.map_cons,List.flatMap_cons,List.map_append,List.length_append,List.length_map]at h1 ⊢
  have e:(Ax.aP.atoms r.ak).length=r.body.length+1:=by simp[Ax.aP.atoms,MR.ak]
  rw[e,List.length_cons]
  omega
theorem Gw{l:List MR}{k:Nat}(h:k<l.length):aS ((l.take (k+1)).map MR.ak)=aS ((l.take k).map MR.ak)++((l[k]).ak.atoms).map oc:=by
 have e:(l.take (k+1)).map MR.ak=(l.take k).map MR.ak++[(l[k]).ak]:=by
  rw[List.take_add_one,List.getElem?_eq_getElem h,List.map_append]
  rfl
 unfold aS
 rw[e,List.flatMap_append,List.map_append]
 simp
def A2(w wr:World)(v:Value)(P:List Pd.Pr):Prop:=wr.ownsRow w.heap.size 112 2 v P.length (au P)∧Below w.heap.size w wr
theorem Ss{w w1 w2:World}{qd:Option Addr}{qc:Nat}{P:List Pd.Pr}{p:Pd.Pr}{v2:Value}{o1 o2:Obj}(h:A2 w w1 (.slice qd P.length qc) P)
 (aO:w2.ownsRow w.heap.size 112 2 v2 (P.length+1) (au P++[.string p.1,.int .i64 p.2]))(bx:((w1.alloc o1).alloc o2).grownBy w2 (Value.ownBlock (.slice qd P.length qc))){w0:World}(ho:Lib.OthersKept 112 none w0 w1):
 A2 w w2 v2 (P++[p])∧Lib.OthersKept 112 none w0 w2:=by
 have hs:=h.2.size
 refine⟨⟨?_,((h.2.alloc hs _).alloc (by simp;omega) _).grown bx (by simp;omega) (fun k hk=>(h.1.lt k hk).1)⟩,((ho.alloc _).alloc _).grown bx (cu ((h.1.alloc _).alloc _))⟩
 rw[zh,List.length_append]
 exact aO
end
end Go.Proofs.YtdmicblafmhflaaGreatDoor
