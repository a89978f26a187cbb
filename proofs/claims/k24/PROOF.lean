import PyProof.Rows.All
import Wide.All
import OpenK.AllK
import Wide.FinOn
import Lean
import PyProof.EqAt
import PyProof.EqKinds
import PyProof.TupleCall
import PySem.Str
import PyProof.ZipIter
import PyProof.Draws
import PyProof.StrLawsChain
import PyProof.StrLawsTight
import KE.KIntText
import OpenK.KTop
import PyProof.StationsW
import PyProof.ExcClass2
import PyProof.ExcBaseAll.ValueError
import PyProof.Rows.Catch
import OpenK.KOwn
import KE.KTryMore
import KE.FramesApart
import PyProof.RulesAs
import PyProof.NsDelKeeps
import PyProof.ExcArgs
import PyProof.Rows.SortStr
import KE.KDictSum
import PyProof.DictWalks
import PyProof.IsiH_list
import KE.KDictOf
import PyProof.NeKinds
import PyProof.StrCalls6
import PyProof.FString
import KE.KUnpack
import KE.KItemsList
import KE.KRevIter
import KE.IntBitsLaws
import PyProof.FString5
import PyProof.TupleKey
import Wide.Seal
import PyProof.Rows.SortShellK
import PyProof.DictRoadsH
import PyProof.Rows.SortRev
import PyProof.Rows.SetFrom
import PyProof.FactsAll.set_2
import PyProof.FactsAll.set_1
import PyProof.Rows.SortShell
import PyProof.Tail
import KE.KMinKey
import PyProof.ExcArgsOwn
import PyProof.ExcAttrAll.ValueError
import KE.KRevSl
import PyProof.FactsAll.dict_itemiterator_1
import PyProof.TupleOfSeq
import PyProof.WalksMore
import PySem.Challenge.RW_askwright_k24_whole_founded
local macro_rules|`(↑$x)=>`(($x).length)
local macro_rules|`(tactic|simp! [$x,*] $[$l:location]?)=>`(tactic|simp only [$x,*] $[$l]?)|`(tactic|dsimp! [$x,*] $[$l:location]?)=>`(tactic|dsimp only [$x,*] $[$l]?)
set_option hygiene false in
local macro_rules | `(command| #print $s:str) => do { let mut a := #[]; let mut n := 0; let mut k := 0; for c in s.getString.toList do { let v := c.toNat; n := n*64+(if v<58 then v-48 else if v<91 then v-55 else if v==95 then 62 else if v==126 then 63 else v-61); k := k+1; if k%11==0 then { a := a.push (Lean.mkIdent (Lean.Name.mkSimple ("tw"++toString n))); n := 0 } }; `(structure PySem.W.Fast:Prop where ($a*:True)) }
set_option maxRecDepth 100000 in
#print "AZC4M5o~wGq1fk~Q5H_NIGAXwg~XMjZ7O8L7kEQS8rWO2ugg3vltDgF75BTdTOLTPSBCuwk0LTIvrC3KidkMV6lU9Drwiah6PX6EYMj0DxmIBu8R~8nGl5PeH5oelqFXUk2IDKBOVPL_c3~4GZ1Z4I6cub0BMWx8KUG~yAXF8hOMGBSfE_yTWUei2OV9KvkjNAPr6cDvfmFygExcbA841_5DDEUs50gEQhlRiXkCLKi03O0i5f1npcD0DPOgU3Ngq978xL2a4CEZEpFFk8N6FspBl0689ZCz4HDydx6ruB~LCos0BiSG1amn_4IEAGvBuoWzdhxmzq7Gg5RShovYWCLWbRtE6GsxEaIjXptpW1KEBVE3vHiqbVDNo6dJfp7xp3ONCuNtOkS_4MKik2OyTApDNHoaeJmULf1SFRWEZQgx68hsDTOPgC9h1~uGPl8RaKZ55BiXPQXSeDEzcd5vEpJE0AxK7_EcunUI9zdDfCk2RaUBryCCf5RuYQ0T2Nubjm1vS2sI7gk3c_em5TNeA19~UOZDGtNdY83W2M8hrn9bS6~0E1FF_FdAf9Mb5GFUFf0dgiA4Nmhaf3M7aeCgsj1sMyM72Al_UsPB3Bqf5J3MPwMyoyx0Rlt2L07Y1p4obI4YNDvzhFwmpJOvEhXe92EbN7L5W9FByHg5MX8~p_6j46j6uWMQtCbwYh09s7hV3DwakxBTfgzCrJVRzo0p6E1wB2Hvr3U7t6hialbEDAbWD69R8M6f_9gAh65D676_g6FeNQ8nCq_~nBXU32nzvN0g94NiSjoF14j57sCZ46h3rq7FW0PcHYwyF4ozSpF68DB2AUr8yHXgAGhDG89hU1vgZn4OxV005cXu773OVb4a1Ygs3UCHhkTEtHq57oAWYQFbYCCj7nq0Xtts77YezO7ICH042MivPf1Bofc6ciUzpy6h0a0NZoRBw0bzpEDisonOxaxzFjwpsec04lLBrfnxMZaN7dFXKIKseC5HlD5wblgRDaZQ9x0DSo7c2NdCW5dMsEJCcfB_Rey8Sf8JIB7RTzEc769R9BuaOX4sA82B~BL76Vaa1g53_HyKk8~7k3NFfsOu~1Sc6thlMyP04Ao5qpT4TkOc2R3VK42jldYUo0rXO2Wgdw7g8bdFfg1G8kbAz0MjAsHDkU9OpG~STGLL0Azgry3kzwznBEZrWLt07hO6nTguJKZx~lAxQTSUFGB1OAdIpSB2YNRt2_Rvu2gSieV3RhkFsBzzRXE6vmin2x6tVFjuvBsZSClH8_OnX5_j63E8gSrCmbp_ez4RXaIQpScfY97YiXVkPe~S7OytRMKMjIFEcnny4v6KGv2OU4575gwbG3EFIVubeERo4lmEKkRg_VM9YEWe4Saie_30lVc9Q8w0b9LhIBLjC31z373aIprtJ7EEvuikfF7VUo0X113Xdulpx917taLZR5D35zg3YFhEOM1E1BfX7jSflT3uOLCmd_Nll9M2KEj~QbkdFB~WZ40GoJQCytlvVGdZXe7ZKhOmwpnxN1avm08f~JKb7dTK1nRIf3jEHjV230PMav9lkBbAa_3EZEph_vwQ8ke68nKlvct8EZ31I5Z5WYuYsfB7X0gi1_WvD9Pai0C9s6pv6XShirMH~FP7Wb2FztyyvIA4m3_pw5fIG9fYgjKdRpnwAlC~qczXMyfEf1v1TsQCSJ3z0MoMguKbS1clm34mr8TA2zWndFZAVB41_TZo9BvsRvDMF~wpR~DVI6DYLnfjy6cn5SrLn9dSO2J7HgjusvDomnBOAy_8_gR9r2sRZ_Off2yKA_dFfYcTclzFjAdUm0_OT_4q0eWgrflqK0XoLOMvazqjC3zSQLkyynwFasTzhkmwrm1dFaMhZ90wqFxMbqhwCoghECxmR_LRFzSA_YEw_ACMai1fEvUBhm~lNAIte_3jePXW6HR~aOvGewl7CEzvcI9fc0BE1pHif6sxA1mLRM1kosi0EYs4skRFi1W3Ml~4V0txvVDgyc2_nRSxbBCqPAqlSnLL0Zk4cj_frrDFwxOkOYm39_28IDA_PWTnY4JTt1Y~BZPA2sD3~2URmHBDZo7KPIk60P1jIPa5uCQraF~rmDZpjrc5AGZiQbKclsd5gRceGtfn25EGOozMLOqDKEe1h5iz6qmdClm_S21DlvH6bO2qDttax4CnqOryzmI6S4E2ET1FWBHg0CvuXScMzprDJTs3LkgYOL9lNECbqmWEw26BYXewE3OT4fncn2gh0kw9kfEfPCWqIH0arHb_HxPxB2MYxoIOmjMF3VA_J4T0mbe7ifWhnTtTQF8XMnxy9fcRtCw_z4in2LnhF3ac~SJxNtg7yfLwr4_~s5FDfHxXDuuPW8HoUGWmpn0a9QSz5EbyIcqBi62ZwYy4TH7Aod1K3oHzwBpMykbB6RON7ghrBMSAPzz2am5t5uHdgp1d6Jmp~jMdWBrFzKG~g66C51asBfJmhFU439XNGM6XSg5Jky6AGij0_Av4pBd23n2b7jfTQ_f7amb57b1FKLxpmY1lXI2Cw6Uj73jVKWEC9sHaCCiZSPEuT6x7CPDldz0XyD1oIdDNEkbNgBb~KtpOx7uq4htVIJV9~B4FuZC9SWd907BXrMJPu8dDu4jRbQpnCfjE4wOZumv1Sqc3xVQt_N0FMWDjKzlgHO92b5bixWy48ALK9Fewik6z4H619PJpjKFUO47ODGLMgw9ZCFs9COm09VBW9eRPMDOQrGCA0jEQWwXkVJ3c1VcDHgyeJBcrRBW_OVs57Q2VDY9ZDF5FTvu31McPrE9VyUDi_11x~ELio~pXFKqJAIHeEmBBNaH9CSIG5av6ak9pgNgXi1~_XBhmjD6XeNsH09Oa~TlkoR593jKBM8XFJLEaHxCl5_Z9r8iIL0HKKWbZBb2ha58M7hCFe5gBQh~vw5BNjs~w~Gr8fAfePtEt~ednAI23uucbWAGD0f6rX3EGR04uEQ7Z0~LLIFSx5ByBex0pELjaiF8Qp7QFnBvTAPs4Nz6ATrnCMtjosAIQNTZxfF85ATpBJ6QnXN1B5HD4gKtvscAqe7m0_z6OZBzlYlkeQGE88jnkwCAYDrvFjLBj7kx_xQCm4DJhfFP5j870Lx~4iiYc8jQ0I5W7FKnCv8C3QLp32U9zrb41Uu7eG13nFVkifuBcEhfd3LNp7oH9WNAR43ypKLFJhQN55ZFIZ6BPLCDYuyyjCYReSdrsgW6DPy7vZ9W8Xb5hzrK3MynIv9cGcjq5ojSe4ckWW5oeU1t4sg~a5puSd49EDm8fLQoo74ShLQzQDiS8EcSnOkx~Uh0Dbl8U4WkME26t4wjAd9qfF1upbpCLon0F7kosYqLqsfC8iO7i_6kXif5rfIy0ioMR_0mSxC8QWo3U1YJX_76h_lW0pRtwgDJPHb7XaZU99e25a8gUl1UG_elK331lyZiBeYK8cIsA0V9SnR9LwQ8sFoDDLEtiMfuery~wCm3f88bzEsU6UY1BgTdyiRBoNR94XqgjOFul_h4RPLV95SbJUjEkqF1FJnRIJwOAbOCCgG2zH99obFfB1yI1wYSGDVTQZxg2YT24rmWcDPTy5UEsknh4J_4cmCJznhDmSaqV0Qx2AABOdrt9_vXU8U2LbFDhP1phpQs461OA8jASexgAAA9g_2biYQJ4d17JOOyFm396DIUMPi~1kDPBGWaceMwyE5zwyzbrHpFD11pdgQsHlH96gqxT295nb6XakIYy9zeYBhp08iNL7SZ7XubJjeeJbWBgFnWUEaN8P7IoOsEgk9YD1FIDDgcUPCb9~O6RnLRQLx0HyBwg9Yv950bZylA4L24mCLUJU5X0jSJ66LZqxlDFZcDDiUfxKr3El8xjp82V0_ig8O3TFZlir9T6sg7eNVMHnF8xbm6f729MLDzX_2w3JscmA6QR2i~Q16pBQRV1C_nC8RD_1V0sw4mV_5BXDzUdvFDp9EiLF2GG~Za2MbzuTRkjEyBjJNIWlB1FN7GZiz9BThIq6P0jtltoycA20~zZ~LMdmE8hhLAtRlLB08HacX05S~_MAHI_hcMjf4dFWld5qFRWdSEOQDC5FM31XDwptz66PIkx5etW0DrgLVS9Eikf9drwPa39x7~kbGQwYBO1PDKwD4nM2j8UwHZ8Y772w56sVpBVaDF1kMgDzTT340f31XpPRcTDAdkuz~G48i8DNiD9LCPqv0BG_zmIjMQXb8gUoYsLQwN7FzdwsugnRqR6jAbVFc1CgoFJZXBkypzaP5A~UiLdmlcW5uUCHxw1cpL6cvgo2pep6TFIU_LcUvCXT96BQNEjRi4H5iLhASiucVN6W0LcoxfAIi0rXidjkYKHe4Uy~TXmGmv7CMDxmeHl8nuEqWjRQhki_N9HCg0G7zlRq3V87w86XehH46ldmE1EBi6A~vIrl7vqrxBhwlk7_vkBZ2NrNrs1inuK7P7F0MmsmGz4K7vOdfWq1m1fCENdXSGMi2hbwPSD74xg5~y9U9eVN9B15EAcPYm9YvA5R~U~gSItq7rnM2lUWpcB4jr9n~2SxYnEBJ5tLbnwKY3aup1KVTkXf9J~RlGe3AmW4SgNpxP9HfgCNJCczYZroi9d3Xj3WkA5rCLGZFAINc4B43QDw~Hkf2w8oj2INNFBGH0nDZ~oaOzoeCQ0FW49YZUH6nVEKl8SjB4AXEP_m4b0Dm5NtGhk98XId55fzjAuPhGRCsp1avHA_ec6k1~dqmAKzzEKQNmJCnIT93DwrKNHL29_64PRQTQZW0g5OfiAetpXOL4m0QR_8i8yX0R8IWa~X7pRDey4kL8vX_v8xbx4BX4fcs4ONn1_JW0Gy2F2RRj3Wr3xAf8zwjIZ3wzD19MZIF_XRuDPCnVizM~mY3evVOx_r5Fb6ITFMsL0KCmEiKnKx9ntmTElgWBGHTZR03yjUW19mS0FDxHMsWEBKtP4sER1MpPmH14Z~e2~RZG_O7xANXCd9n1d9zNuoZRjI8vFkybLHuAvKcDCbAwV4IuRIBBZxc_VGOhG3QuKLVpL4u6F_01YYo0ZUU6TsBPjwahOi6DqUii8nNH35WUu7WpQ5mg3eQ1xEmgLS3Dx4lAylEmPHEPyI6YYlMjC9pST_7YqgyB9Lwyw7Vv1v81BVrbbz2tFmEA4QUsvZG5kA7IPgZ6dfho08E4Jl_7nSEFaYGj_hFswG5xM_NjWhnkQ9RQxtQ0so9o6Pfv~VjUXMBFQRHVsGBA9kD2Aq41k9bRsFC6Fu5P1z2X141W8nNWtapCktvTSeAnD5C5f0k9sW0Ul5fD~B78kK0kBSD4j~2fsShF46TKxqX6vPFaRVRFSf5xx2DZooGfs4LzBe7ZcWZajbP1mmgoGaqcNt7zZdXYI4T8KF8DgFIj7znuCgPwWV4XtF29yPeJooVQm193HwA3UXDAAF3vmabo2Lmj9Iis9EISSTq8OdTSj7udb_7WPs3ZBxqX18xXMRomKhQVBSYG6Nq2b3E1KomF3AkrdO0NaBwPkwKYI9ZRBE5UfzTeDtUWg08mLsOBBUMJKGeYpX77_HLnOLxXM2Qr1qGrbXSLC6E1Nx8ksz4BpIeCH5Vg4ZChdY9HlfQVV5Lq9F8rziUU6dSqRZUAS8U8EdLJ_Mchas5L7LVKkkj167CdW_RQnczLAbd8BzPo~JaF0yq82QWWB2"
set_option bootstrap.genMatcherCode false
set_option genSizeOf false
set_option compiler.extract_closed false
local macro_rules | `(tactic| trivial) => `(tactic| first | rfl | exact .inl rfl | exact .inr rfl | exact .inr (.inl rfl) | decide +kernel | (intro _; rfl) | omega | exact ⟨rfl,rfl,rfl,by decide +kernel,rfl,by decide +kernel,by decide +kernel⟩ | (intro _ _ _ _ _ _ us hl; rcases us with _|⟨_,_|⟨_,_|⟨_,_|⟨_,_|⟨_,_|⟨_,_⟩⟩⟩⟩⟩⟩ <;> first | rfl | cases hl) | (intro _ _ _ _ h; cases h; subst_vars; rfl))
set_option hygiene false in
local macro_rules | `(tactic| ac_rfl) => `(tactic| ((try dsimp only);first|assumption|exact Inv.tk (by assumption)|exact Nat.succ_pos _|exact Nat.lt_of_lt_of_le (Inv.tk (by assumption)) (by assumption)|exact Nat.add_pos_left (Inv.tk (by assumption)) _|omega))
local macro_rules | `(()) => `(by trivial)
local macro_rules | `(#[$f:ident,$n:num,$xs,*]) => do let h ← `(_); let b ← `(by trivial); let mut a := Array.replicate n.getNat h; for x in xs.getElems do { match x.raw.isNatLit? with | some k => a := a ++ Array.replicate k h | none => a := a.push (if x.raw.isOfKind ``Lean.Parser.Term.hole then b else x) }; `(@$f $a*)
local macro_rules | `(⟨$xs,*⟩) => do let h ← `(_); let r ← `(rfl); let mut a := #[]; let mut c := false; for x in xs.getElems do { match x.raw.isNatLit? with | some 0 => { a := (a.push h).push r; c := true } | some _ => { a := a.push r; c := true } | none => a := a.push x }; if c then `(⟨$a,*⟩) else Lean.Macro.throwUnsupported
set_option hygiene false
local macro_rules | `(#v[$xs,*]) => do let mut r ← `(qd); for x in xs.getElems.reverse do { r ← `(#[qb,5,$x,$r,_]) }; return r
local macro_rules | `(%[$xs,*|$k]) => do let mut r ← `(#[qe,3,$k]); for x in xs.getElems.reverse do { r ← `(#[qc,5,$x,$r]) }; return r
local macro_rules|`(#[Xp,$a,$b])=>`(#[Xp,7,$a,$b])|`(#[Qv,$a])=>`(#[Qv,4,$a])|`(#[Qh,$a])=>`(#[Qh,3,$a,_])|`(#[qx,$a,$b,$c,$d])=>`(#[qx,9,$a,_,$b,$c,$d,_,_,_,_])|`(#[yc,$a,$b,$c])=>`(#[yc,2,$a,2,_,$b,$c,rfl,_,_])|`(#[jq,$a])=>`(#[jq,4,$a])|`(#[qm,$a,$b,$c])=>`(#[qm,8,$a,$b,$c,qu _])|`(#[Kk,$a])=>`(#[Kk,4,_,$a,_])|`(#[qp,$a])=>`(#[qp,4,$a])|`(#[Je,$a,$b,$c])=>`(#[Je,8,v6,rfl,$a,$b,$c,_])|`(#[qN,$a,$b])=>`(#[qN,2,$a,1,$b,rfl,Or.inl rfl,_])|`(#[qG,$a,$b,$c])=>`(#[qG,2,$a,4,$b,rfl,Or.inl rfl,$c,_,_])|`(#[Q9,$a])=>`(#[Q9,4,$a])|`(#[qB,$a])=>`(#[qB,5,$a])|`(#[JZ,$a,$b])=>`(#[JZ,6,v6,$a,$b])|`(#[qF,$a,$b,$c])=>`(#[qF,7,$a,$b,$c,(λ_ _=>rfl)])|`(#[X1,$a,$b])=>`(#[X1,7,$a,$b])|`(#[jP,$a])=>`(#[jP,4,$a])|`(#[Qd,$a])=>`(#[Qd,4,$a,_])|`(#[jk,$a,$b,$c,$d,$e,$f])=>`(#[jk,12,$a,$b,$c,$d,$e,$f,_,_,_,_,_])|`(#[xN,$a,$b,$c,$d,$e,$f,$g])=>`(#[xN,2,$a,$b,$c,9,$d,rfl,$e,$f,(λ_ _ _ _ _ _=> @yp _),$g,_])|`(#[Xo,$a])=>`(#[Xo,4,$a])|`(#[qY,$a,$b,$c])=>`(#[qY,8,$a,$b,$c])|`(#[qI,$a,$b,$c])=>`(#[qI,8,$a,$b,$c])|`(#[qv,$a,$b:ident,$c])=>`(#[qv,16,$a,hr.mono (),_,$(Lean.mkIdent (b.getId++`m)),$(Lean.mkIdent (b.getId++`F.kp)),$(Lean.mkIdent (b.getId++`b)),.nil,qA,$c,_,_,_])|`(#[Qg,$a,$b,$c])=>`(#[Qg,8,$a,$b,$c,qu _])|`(#[Q6,$a,$b,$c])=>`(#[Q6,8,$a,$b,$c])|`(#[pe_gR,$a])=>`(#[pe_gR,4,_,$a,_])|`(#[qW,$a,$b,$c,$d])=>`(#[qW,9,$a,_,$b,$c,$d,_,_,_,_])|`(#[Ys,$a,$b,$c,$d])=>`(#[Ys,10,$a,$b,$c,$d])|`(#[YM,$a])=>`(#[YM,3,$a])|`(#[QO,$a,$b])=>`(#[QO,6,yb hr,$a,$b,(λ_ _=>rfl)])|`(#[Xs,$a,$b])=>`(#[Xs,7,$a,$b])|`(#[xn,$a])=>`(#[xn,5,$a])|`(#[Qm,$a])=>`(#[Qm,8,pv 0,$a,rfl])|`(#[Xh,$a,$b])=>`(#[Xh,9,yb hr,#[qO,5,pv 0,rfl],$a,$b,rfl])|`(#[Qf,$a,$b,$c:ident,$d,$e])=>`(#[Qf,20,$a,$b,$(Lean.mkIdent (c.getId++`h)),$d,hr.mono (),$(Lean.mkIdent (c.getId++`b)),.nil,qA,$e,_,_,_])|`(#[QR,$a,$b,$c:ident,$d])=>`(#[QR,17,$a,$b,$(Lean.mkIdent (c.getId++`h)),$d,hr.mono (),$(Lean.mkIdent (c.getId++`b)),.nil,qA,_])|`(#[wC,$a])=>`(#[wC,6,rfl,$a,_,_])|`(#[kG,$a,$b])=>`(#[kG,6,$a,$b,_,_,_])|`(#[YW,$a])=>`(#[YW,6,_,T.jI,$a,_])|`(#[wn,$a,$b,$c,$d:ident,$e,$f])=>`(#[wn,17,$a,$b,hr.mono (),_,$c,$(Lean.mkIdent (d.getId++`b)),.nil,$e,$f,_,_,_])|`(#[w])=>`((by with_unfolding_all rfl))|`(#[X,X])=>`((model X.prog X.w))|`(#[w,w])=>`((model prog w))|`(#[Y,$a,$b])=>`((⟨$a,$b⟩:Sy.Ss (SyP qs)))|`(#[K,$a,$b,$c,$d,$e])=>`(FnOk P w K mg base CX0 $a $b $c $d $e)|`(#[K,$s:str])=>`((PySem.W.nsIn K mainGlobals $s))|`(#[K,$x,$s:str])=>`((PySem.W.findIn K (.ref $x) $s=some none))|`(#[0,$s:ident])=>`($(Lean.mkIdent (s.getId++`heap.objs.size)))|`(#[I])=>`(Inv X oq σ H s)|`(#[$f:ident,T])=>`($f (P:=P) (w:=w) (base:=base) T)|`(#[$f:ident,T,C])=>`($f (P:=P) (w:=w) (base:=base) T C)
local macro_rules|`(tactic|exists $es,*)=>do{let a:=es.getElems;match a[0]!.raw.isNatLit? with|some 2=>let b:=a.extract 1 a.size;`(tactic|intro oq s σ H $b*)|some 6=>let x:Lean.Ident:=⟨a[1]!.raw⟩;let y:Lean.Ident:=⟨a[2]!.raw⟩;`(tactic|obtain ⟨$x:ident,$y:ident⟩:=$(a[3]!) X G $(a[4]!) $(a[5]!) (by rfl'))|some 7=>`(tactic|try dsimp only [cxOf,Cx.nox])|some 3=>`(tactic|(refine ⟨_,$(a[1]!),?_⟩;(try dsimp only [cxOf,Cx.nox]);(try (apply cl_i (a:=K) (b:=a);intro _ _))))|some 4=>`(tactic|try (apply cl_i (a:=K) (b:=a);intro _ _))|some 5=>`(tactic|repeat (first|(with_reducible refine gN_ ?_)|(with_reducible refine seq_0 ?_;intro _ _ _)|(with_reducible refine if_C ?_;intro _ _)|(with_reducible refine while_C ?_;intro _ _)|(with_reducible refine for_C ?_;intro _ _)))|some 8=>let x:Lean.Ident:=⟨a[1]!.raw⟩;let y:Lean.Ident:=⟨a[2]!.raw⟩;`(tactic|((first|refine seq_oC ?_|((apply cl_i (a:=K) (b:=a);intro _ _);refine seq_oC ?_));intro _ _ $x $y _))|some 9=>let x:=Lean.mkIdent (a[1]!.raw.getId++`F.ok);let y:Lean.Ident:=⟨(a.getD 3 (Lean.mkIdent `hr)).raw⟩;`(tactic|refine $x $(a[2]!) (by trivial) (λ_ _ _ s H _ Q E $y h=>?_))|_=>let h←`(?_);let b:=if a.any fun x=>(x.raw.find? (·.isOfKind `Lean.Parser.Term.syntheticHole)).isSome then a else a.push h;`(tactic|((repeat (first|(with_reducible refine gN_ ?_)|(with_reducible refine seq_0 ?_;intro _ _ _)|(with_reducible refine if_C ?_;intro _ _)|(with_reducible refine while_C ?_;intro _ _)|(with_reducible refine for_C ?_;intro _ _)));refine ⟨$b,*⟩))}
set_option hygiene true
set_option hygiene false in
local macro_rules | `(tactic| rfl') => `(tactic| first | exact bo1 (fun _ _ _ _ _ _ _ => rfl) | exact bo2 (fun _ _ _ _ _ _ _ _ => rfl) | exact bo3 (fun _ _ _ _ _ _ _ _ _ => rfl) | exact bo4 (fun _ _ _ _ _ _ _ _ _ _ => rfl))
set_option hygiene false in
local macro_rules|`(tactic|erw [$rs,*])=>do{let rec f (e:Lean.Syntax):Nat->Lean.MacroM (Lean.TSyntax `Lean.Parser.Tactic.rcasesPatLo)|0=>`(Lean.Parser.Tactic.rcasesPatLo|_)|n+1=>do{if e.isIdent then{let x:Lean.Ident:=⟨e⟩;`(Lean.Parser.Tactic.rcasesPatLo|$x:ident)}else{match e with|`([$xs,*])=>do{let mut p:=#[];for x in xs.getElems do{p:=p.push (← f x n)};let q:=p;let t←`(rcasesPat|⟨$q,*⟩);`(Lean.Parser.Tactic.rcasesPatLo|$t:rcasesPat)}|_=>`(Lean.Parser.Tactic.rcasesPatLo|_)}};let mut p:=#[];let mut h:Array Lean.Term:=#[];for r in rs.getElems do{match r with|`(Lean.Parser.Tactic.rwRule|$e:term)=>{if h.size==0 then h:=h.push e else p:=p.push (← f e 9)}|_=>Lean.Macro.throwUnsupported};let q:=p;let g:=h[0]!;`(tactic|obtain ⟨$q,*⟩:=$g)}
local macro_rules|`([$a:term : $b:term])=>`(⟨$a,$b⟩)|`([$a:term : $b:term : $c:term])=>`(⟨$a,$b,$c⟩)
set_option hygiene false in
local macro_rules(kind:=Lean.Parser.Command.declaration)|x=>do{let d:=x[1];let h:=x[0];let k:=d.getKind;let s:=d[2][1][0];let p:=fun (n:Lean.Name) (f:Lean.Name) (t:Array Lean.Name)=>Lean.mkNode `Lean.Parser.Term.explicitBinder #[Lean.mkAtom "(",Lean.mkNullNode #[Lean.mkIdent n],Lean.mkNullNode #[Lean.mkAtom ":",if t.isEmpty then Lean.mkIdent f else Lean.mkNode `Lean.Parser.Term.app #[Lean.mkIdent f,Lean.mkNullNode (t.map fun u=>(Lean.mkIdent u).raw)]],Lean.mkNullNode,Lean.mkAtom ")"];let b:=fun l=>Lean.mkNullNode (d[2][0].getArgs++l);if k==`Lean.Parser.Command.inductive&&s[1].getId==`Sp then return x.setArg 1 (d.setArg 2 (Lean.mkNode d[2].getKind #[b #[p `vs `List #[`V],p `H `Hp #[],p `Q `VK #[],p `E_ `XK #[]],Lean.mkNullNode #[s.setArg 1 (Lean.mkNode `Lean.Parser.Term.prop #[Lean.mkAtom "Prop"])]]))else if k != `Lean.Parser.Command.definition then Lean.Macro.throwUnsupported else if h[6].getNumArgs>0 then return x.setArg 0 ((h.setArg 6 Lean.mkNullNode).setArg 4 (Lean.mkNullNode #[Lean.mkNode `Lean.Parser.Command.noncomputable #[Lean.mkAtom "noncomputable"]]))else if (h.find? (·.isAtom)).isSome||d[2][1].getNumArgs==0 then Lean.Macro.throwUnsupported else{let t:=s[1];let n:=t[1][0].getId;let o:=t[0].getAtomVal=="#["&&(n==`C||n==`T);let l:=if o then #[p `T `Tx #[`K,`mg,`a]]++(if n==`C then #[p `C `Fx #[`K,`w,`mg,`g,`a]]else #[])else #[];return x.setArg 1 (Lean.mkNode `Lean.Parser.Command.theorem #[Lean.mkAtom "theorem",d[1],Lean.mkNode `Lean.Parser.Command.declSig #[b l,if o then s.setArg 1 (t.setArg 1 (t[1].setArg 0 (Lean.mkIdent `K)))else s],d[3]])}}
noncomputable section
set_option Elab.async false
set_option linter.all false
set_option maxRecDepth 100000
set_option maxHeartbeats 4000000
open PySem.W renaming Frag->o0,mg_of->uV,kia_one->vt,callWith_K->UL
open PySem renaming Addr->o3,Value->o6,Shared->o7,Heap->o8,Program->o9,World->og,Around->oh,wpAny_bind->A4,sizeLine_eq->uI,boot_len->uL,wpAny_with_toks->uZ,wpAny_newObj_type->vo,wpAny_truthy_bool->vw,wpAny_field->vB,wpAny_callSpecial?_slot->vC,wpAny_mono->vD,mem_of_lookup->vF,call_meets->vH,typeIs_str->vL,wpAny_call_entry->vT,wpAny_passesOwn->U2,codeAny_builtin->U3,wpAny_seqItems->Ud,tupleKind_room_in1->Ui,wpAny_setField_rec->Uk,wpAny_rule->Uu,wpAny_pyIter_tuple->UJ,wpAny_Call_Name_kw->UK,wpAny_pyIter_list->US,codeAny_mono->UY,wpAny_isInstance->V0,plainId_quiet->V4,strKind_is->V5,wpAny->V7,FuncData->V8,sizeLine->V9,wpAny_pure->Vb,starEach->Vc,cLine->Vg,compareOp->Vj,model->Vk,backTo->Vm,IsPair->Vo,Scope->Vr,sysModules->Vv,mainGlobals->Vw,relayAll->Vx,codeAny->VA,IsZip->VC,wpAny_holding->VD,SetTable->VG,binaryOp->VI,bindC->VL,pyNext->VM,NameKind->VN,getItem->VO,bindL->VP,IsPart->VQ,sliceBounds->VR,unsetMember->VS,assignEach->VX,atKey->VZ,rawInt->V_,holding->gV,assign->gW,valueAt->gZ,Builtin->G6,Result->G7,callerA->G9,bindArgs->Gb,wpAny_typeOf->Gf,field->Gi,bootBuiltins->Gj,stored->Gu,Keyword->Gx,Model->Gz,keywordEach->GB,backToKw->GD,attributeBase->GE,tupleKind->GK,CmpOp->GL,BindsTo->GM,DictEntry->GO,storeSet->GP,cellsFrom->GQ,behindInMarks->GS,Operator->GT,limitOf->GU,pyIter->GV,standAt->GX,scanBound->GZ,InCallC->hV,strValues->hX,swapsWith->hZ,GenState->Hj,subscripted->Hk,wpAny_standAt->Hm,wpAny_attempt->Hn,closureFor->Ht,wpAny_execs_nil->Hv,wpAny_call->Hw,typeLookup->Hz,wpAny_of_eq->HA,Params->HB,operate->HE,wpAny_load->HH,cellOf->HI,storeName->HJ,getMethod->HL,letOwnedTupleGo->HQ,newList->HU,call_meetsIn->HZ,wpAny_newList->tm,firstArgMember->tD,evalPart_none->tI,codeAny_of_tree->tJ,seq_tuple_add->tM,leaving->tN,inplaceOp->tQ,setItem->tY,compEnvC->tZ,seqIndex_of->T2,wpAny_Name->T5,wpAny_onRaise->T6,newFunctionEnv->T8,getAttr->T9,seqItems?->Ta,builtinsNs->Tc,callWith->Tg,concat_meets->Ti,slicePick->Tj,foldedSetIterable->To,noFill_tuple_add->Tv,PlainAttrs->TD,seqIndex_neg->TJ,wpAny_mkText->TQ,wpAny_loadName_local->TR,wpAny_sequenceKey->TW,meets_str_split_sep->TX,wpAny_pyNext_list_end->TY,wpAny_pyNext_list_item->T_,getattributeRaised->F0,meets_str_split_not_found->Fa,wpAny_getItem_list_slice->Fe,meets_str_split_cannot_occur->Fi,split_sep_max_tree->Fk,wpAny_execs_cons->Fm,wpAny_isTrue_Compare1->Fp,wpAny_notIn_of->FA,IsRangeIter->FC,intBits_le_64->FE,interactive->FG,wpAny_in_of->FL,builtinLookup_eq_fast->FR,wpAny_comprehension_free->FS,wpAny_loadName_cell->FU,boundAndCalled->FV,wpAny_assign_Name->rg,wpAny_setField->rF,wpAny_alloc->rG,wpAny_storeSet_of->rK,wpAny_Slice->rL,callType_codes->rM,wpAny_storeName_local->rO,typeLookup_type->rT,getAttrByItsOwn->rW,listOfItself->rX,wpAny_throw->rY,wpAny_getItem_of->r_,attributeErrorLeaves->R8,relayAll_perm->Re,raiseAttrError->Ri,checkBuiltinCall->Rp,evalPart_some->Rq,wpAny_updateSeq_pair->Rs,codeAny_call_builtin->Ru,setAddHashed->Ry,joinFit_length->Rz,fits_of_scanBound->RA,wpAny_pyIter_zip->RE,wpAny_letGo->RG,pushCells_keeps->RI,wpAny_Call_method->RM
open List renaming mem_cons->A9,mem_singleton->Aa,mem_append->Ab,mem_map->Ac,getElem?_eq_some_iff->Ae,length_map->ud,mem_cons_of_mem->ui,mem_cons_self->uj,getElem?_eq_getElem->um,length_cons->uu,size_toArray->uz,length_append->uB,map_cons->uC,map_append->uD,not_mem_nil->uH,getElem?_map->uM,getElem_mem->uO,mem_append_right->uQ,map_map->uU,find?_cons->v5,length_singleton->v9,drop_eq_getElem_cons->vb,append_nil->vg,lookup_cons->vh,mem_nil_iff->vi,mem_of_getElem?->vj,take_of_length_le->vk,mem_append_left->vq,all_cons->vv,take_add_one->vx,length_take->vM,length_drop->vN,filter_cons->vO,filterMap_cons->vQ,mem_of_find?_eq_some->vZ,nodup_nil->U0,mem_of_mem_drop->U1,filterMap_cons_some->U4,nodup_cons->U5,map_nil->U7,getLast?_cons_cons->U8,cons_append->U9,eq_nil_of_length_eq_zero->Ua,all_eq_true->Ub,take_length->Uc,drop_of_length_le->Uf,find?_eq_none->Ul,forIn_cons->Uo,all_map->Uq,any_cons->Ut,sum_cons->Uv,getElem?_append_right->Uw,mem_of_getLast?->Uz,getElem?_append_left->UA,map_congr_left->UD,all_append->UP,append_assoc->UT,reverse_cons->UX,range->Vh,Nodup->Vl,lookup->Vz,getD->VW,length->g_,set->Ge,range'->GG,replicate->GN,length_nil->Hq,drop_zero->Hr,map_id->HD,find?_some->HN,length_filter_le->HV,map->H_,eq_nil_or_concat->tR,map_drop->tV,range_succ->tW,range_succ_eq_map->T0,any_eq_false->T7,take_succ_cons->Tb,Perm->Td,take_append_drop->Te,perm_append_comm->Tf,of_mem_zip->Tp,zipWith_cons_cons->Ts,any_map->Tu,mem_map_of_mem->Tw,map_take->Tz,zipIdx_cons->TN,length_replicate->Fc,forIn_nil->Ff,getElem?_set_self->Fu,getElem?_set_ne->Fw,find?->FB,zipIdx_nil->FH,find?_append->FI,getElem?_eq_none->FK,filter_append->FN,any_toArray->FY,concat_eq_append->rp,any_eq_true->rA,mem_of_mem_take->rP,cons_lt_cons_iff->rS,all_nil->Rj,getElem?_replicate->Rt,take_sublist->RF,append_inj'->RK,length_range->RL,mem_cons->uG,mem_singleton->vm
open Bool renaming false_ne_true->uc,and_eq_true->uF,eq_iff_iff->vJ,and_true->vU,false_eq_true->UM,true->v_,false->V6,or_eq_true->Ho,true_and->Tn,and_false->Tt,false_or->TV,and_assoc->Fv,and_self->Rb,false_and->RH
open PySem.Heap renaming get?_push_of_some->uh,get?_push_size->uJ,lt_size->uK,size_push->vf,SameBut->Gr,get?_update_self->Hy,get?_update_other->tu,FlyingW->rc
open Nat renaming le_refl->uq,zero_le->uP,ne_of_lt->uR,le_trans->uT,lt_irrefl->vI,ne_of_gt->U6,lt_of_le_of_lt->Uj,not_lt_zero->Ur,le_of_lt->UE,lt_or_ge->UG,lt_succ_self->UZ,le_add_right->V1,log2_le_self->V2,lt_of_lt_of_le->Vn,le_succ->Gm,lt_trans->HG,lt_succ_of_lt->tF,le_total->tG,succ_pos->tH,succ->tL,succ_le_succ->tP,zero_add->TF,min_eq_left->FT,le_of_eq->R1,eq_zero_or_pos->Rk,one_mul->Ro,add_zero->RJ,add_mul->RQ
open Option.some renaming inj->uN,injEq->pG
open PySem.F renaming plainAttrs_list->uW,plainAttrs_str->uX,entry_str_split->vy,slot_list_append->vz,type_list_append->vA,slot_str_split->vE,slot_tuple_iterator_next->vS,args_str_split_2->vV,slot_str_join->vW,type_str_join->vX,type_str_split->Uh,args_tuple_add_2->UF,entry_tuple_add->UN,slot_str_split->Ug
open PySem.Around renaming in1_units->uY,under_plainId->vP,under->tK
open PySem.PassesOwn renaming never->v6
open PyProof.Rows renaming boot_isinstance->vd,boot_tuple->vn,slot_tuple_getitem->vG,callWith_type1->vR,boot_str->UB,envOfC->Vd,AllBare->VV,IntsAre->Gq,StrsAre->Gy,IsTup->GH,boot_all->h_,subscriptTail->HF,Subscript_->HR,tail_any->HS,slicePart_none->Fj,isTrue_plain->FO,tupleItemsOf_->FQ,args_tuple_getitem->re,subscriptTail_builtinR->Rm,entry_tuple_getitem->RP,iadd_int->RV,callWith_builtin1->pS
open Option renaming isSome_none->vK,some->u_,none->U_,isNone->G_,map_some->HP,map_eq_none_iff->tX,isSome_map->Tl,isSome_some->FJ,map->rJ,getD_none->RB
open Int renaming emod_lt_of_pos->vY,emod_nonneg->Us,toNat_natCast->TK
open PySem.Calls renaming callWith_builtin->Ue,evalArgs_plain->Uy,spliced_cons->tU,spliced_nil->TH,Name_function_global->Rh,call_len_list->RO
open Sum.inr renaming inj->Um
open Array renaming getElem?_toList->Up,length_toList->Vq,append_assoc->HY,toList_push->tS,size_append->Tq,toList_append->TL,toList->Fq,size_push->R9
open Ne renaming symm->Ux
open PySem.Heap.SameBut renaming update->UC,refl->RU
open PySem.SeqAt.EqAt renaming int_str->UH,str_int->UI,str_str->UO,same->HK,int_int->HW,int_none->Fg,str_tuple->Fy,none_str->rf,of_refs->rC,tuple_str->rE,str_none->rN,tuple_int->rV,none_int->R6,int_tuple->Rg,int_bool->p6,bool_none->p8,none_tuple->pp,tuple_none->pw,bool_int->pC,bool_bool->pF,bool_str->pH,str_bool->pJ,none_bool->pN
open List.cons renaming injEq->UQ,inj->pB
open PyProof.Rows.F renaming plain_set_update_loop->UR
open PySem.SeqAt.RcAt renaming tuples->UU,tuple_str->Fo,str_tuple->rm,none_tuple->RX,str_str->pM,tuple_none->pQ
open Nat.le renaming dest->UV
open Sum renaming inr->Va,inl->Gn
open PySem.Value renaming ref->Ve,str->Vu,none->VF,type->VY,int->gX,bool->GR,float->t_,bytes->f_,isInt->rB,isStrOf->RN
open PySem.Str renaming join->Vf,length->VU,ofString->GJ,empty->tT
open ToString renaming toString->Vi
open PySem.SeqAt renaming EqAt->Vp,RcAt->rn,RcNeAt->rZ,in_listAt->Ra,in_tupleAt->Rc
open PySem.SetTable renaming grown->Vs,relaid->RW,orStandIn->p9,sizeAbove->pc,laid->pf,layClean->pU
open PySem.NameKind renaming free->Vt,cell->gU
open PySem.Builtin.Str renaming strKind->Vy,occurrences->Hl
open False renaming elim->VB
open Unit renaming unit->VH
open True renaming intro->VJ
open ForIn renaming forIn->VT
open Or renaming inr->gY,inl->Go
open PySem.Txt renaming startswith->Gg,slice->HM,slice_le->FX
open PySem.StrLaws renaming occBody->Gh,partsFrom->HC,glued_eq_join->Fb,strSub_toList->Rf,occ_eq->Rr,joinTotal->RD
open PySem.Builtin.SmallTypes renaming nextOf->Gk,ownedTupleIsFree->Hu,ownedTupleHandOut->FD
open ForInStep renaming yield->GC
open PySem.Builtin.Tuple renaming tupleExact->GF,tupleItemsOf->Fs,tupleIsExact->pR
open PyProof.Rows.IsTup renaming new->GW
open PySem.Obj renaming mapSeq->GY,putSet->TB,data_mapFields->rD,mapFields->Rv
open PySem.Builtin.Slice renaming slicePlaces->Hx,sliceAdjust->T1,sliceApplied->rq,slicePartIndex->pd,sliceFields->pP
open PySem.Code renaming isFrame->HX,frames->rQ
open LawfulMonad renaming pure_bind->T4
open PySem.Builtin.List renaming listTooLong->TC
open PySem.Builtin.Dict renaming updateFrom->TM,selfAndRest->pI
open PySem.Heap.DictOf renaming new->TU
open PySem.Walks renaming strWide->Fd,strAscii->rh
open PySem.Shared renaming heap->Ft
open List.Nodup renaming sublist->Fz
open PySem.SeqAt.RcNeAt renaming tuples->FW,str_tuple->RZ,tuple_str->p7,str_str->pD
open Classical renaming choose_spec->F_,byContradiction->pA
open List.Pairwise renaming nil->rH,map->ph
open List.Sublist renaming refl->rR,append->RS,map->pk
open PySem.Heap.IsSliceOf renaming new->R7
open PySem.DictEntry renaming refKey->Rx
open PySem.Builtin.Range renaming rangeSize->RT
open PySem.Builtin.Frozenset renaming newClass->RY,updateFrom->pE
open PySem.SetTable.mk renaming injEq->R_
open PySem.MeetsSeq renaming list_pop_last->pq
open Int.ofNat renaming inj->pK
open PySem.Heap.IsList renaming push->pL
open PySem.AutoSeq1 renaming list_extend_list_list_0->pO
open List.Perm renaming refl->pT
open PySem.Heap.Ns1 renaming of_empty->pV
noncomputable abbrev oj:=List
noncomputable abbrev om:=Option
nonrec def A2:=@if_neg
nonrec def A3:=@if_pos
nonrec def A6:=@decide_eq_true
nonrec def A7:=@absurd
nonrec def A8:=@congrArg
nonrec def ue:=@decide_eq_false
nonrec def uw:=@of_decide_eq_true
nonrec def uS:=@or_false
nonrec def vc:=@decide_eq_decide
nonrec def ve:=@decide_eq_true_eq
nonrec def UW:=@not_false_eq_true
nonrec def V3:=@not_or
namespace L2
open PySem PySem.Spec PyProof.Rows
noncomputable abbrev Key:=Sum Int Str
nonrec def oH:Key->o6->Bool
 | .inl k,v=>rB k v
 | .inr x,v=>RN x v
nonrec def AdN (w:og):Key->Int
 | .inl k=>hashInt k
 | .inr x=>hashStr w x
def Qz:∀{k:Key}{v:o6},oH k v=v_->(∃i t,k=Gn i/\v=gX i t)∨(∃x t,k=Va x/\v=Vu x t)
 | .inl i,v,h=>by
  erw[Value.isInt_shape (k:=i) (v:=v) h,t,e];exact .inl ⟨i,t,1,e⟩
 | .inr x,v,h=>by
  erw[Value.isStrOf_shape (x:=x) (v:=v) h,t,e];exact .inr ⟨x,t,1,e⟩
def Ef (i:Int)(t:Tok):oH (.inl i) (.int i t)=true:=by simp[oH,rB]
def Ee (x:Str)(t:Tok):oH (.inr x) (.str x t)=true:=by simp[oH,RN]
def Aa3 (a b:Int):decide ((Gn a:Key)=Gn b)=(a==b):=by
 by_cases e:a=b
 ·subst e;simp
 ·have h:¬(Gn a:Key)=Gn b:=λq=>e (Sum.inl.inj q);rw[ue h];exact(beq_eq_false_iff_ne.mpr e).symm
def Aa0 (a b:Str):decide ((Va a:Key)=Va b)=decide (a=b):=by
 by_cases e:a=b
 ·subst e;simp
 ·have h:¬(Va a:Key)=Va b:=λq=>e (Um q);rw[ue h,ue e]
def Aa2 (a:Int)(b:Str):decide ((Gn a:Key)=Va b)=false:=ue (λq=>nomatch q)
def Aa1 (a:Str)(b:Int):decide ((Va a:Key)=Gn b)=false:=ue (λq=>nomatch q)
nonrec def Qu (prog:o9)(w:og):PySem.KeyKind prog w Key where
 is:=oH
 hash:=AdN w
 inj:=λv a b ha hb=>by
  rcases Qz ha with⟨i,t,rfl,rfl⟩|⟨x,t,rfl,rfl⟩
  ·rcases Qz hb with⟨j,u,rfl,e⟩|⟨y,u,rfl,e⟩
   ·injection e with e1 _;rw[e1]
   ·exact nomatch e
  ·rcases Qz hb with⟨j,u,rfl,e⟩|⟨y,u,rfl,e⟩
   ·exact nomatch e
   ·injection e with e1 _;rw[e1]
 byValue:=λk v h=>by
  rcases Qz h with⟨i,t,rfl,rfl⟩|⟨x,t,rfl,rfl⟩<;>rfl
 pyHash:=λhv h=>by
  rcases Qz hv with⟨i,t,rfl,rfl⟩|⟨x,t,rfl,rfl⟩
  ·exact wpAny_pyHash_int h
  ·exact wpAny_pyHash_str h
 eqBool:=λhu hv h=>by
  rcases Qz hu with⟨i,t,rfl,rfl⟩|⟨x,t,rfl,rfl⟩
  ·rcases Qz hv with⟨j,u,rfl,rfl⟩|⟨y,u,rfl,rfl⟩
   ·rw[Aa3] at h;exact wpAny_eqBool_int h
   ·rw[Aa2] at h;exact UH i t y u _ _ _ _ h
  ·rcases Qz hv with⟨j,u,rfl,rfl⟩|⟨y,u,rfl,rfl⟩
   ·rw[Aa1] at h;exact UI x t j u _ _ _ _ h
   ·rw[Aa0] at h;exact wpAny_eqBool_str h
 «strs»:=λk x t v h=>by
  rcases Qz h with⟨i,u,rfl,e⟩|⟨y,u,rfl,e⟩
  ·exact nomatch e
  ·injection e with e1 _
   subst e1
   cases v<;>rfl
def sR (prog:o9)(w:og)(i:Int)(t:Tok):(Qu prog w).is (.inl i) (.int i t)=true:=Ef i t
def Wk (prog:o9)(w:og)(x:Str)(t:Tok):(Qu prog w).is (.inr x) (.str x t)=true:=Ee x t
inductive V where
 |non|bl (b:Bool)|int (i:Int)|str (x:Str)|byt (b:Array UInt8)|flt (b:UInt64)|ref (a:Addr)|ty (n:String)
 deriving DecidableEq
nonrec def ik:V->o6->Prop
 | .non,u=>u=VF
 | .bl b,u=>u=GR b
 | .int i,u=>∃t,u=gX i t
 | .str x,u=>∃t,u=Vu x t
 | .byt b,u=>∃t,u=f_ b t
 | .flt b,u=>∃t,u=t_ b t
 | .ref a,u=>u=Ve a
 | .ty n,u=>u=VY n
noncomputable abbrev im:oj V->oj o6->Prop:=Paired ik
variable {xs:oj V}{us:oj o6}
def im.length (r:im xs us):↑xs=↑us:=Paired.length r
def im.get:∀{xs:oj V}{us:oj o6}{i:Nat}{x:V},im xs us->xs[i]? =u_ x->∃u,us[i]? =u_ u/\ik x u
 |_,_,_,_,.nil,e=>by simp at e
 |_,_,0,_,.cons r _,e=>by simp at e;subst e;exact[0:r]
 |_,_,i+1,x,.cons _ t,e=>by
  obtain⟨u,h1,h2⟩:=im.get (i:=i) (x:=x) t (by simpa using e)
  exact⟨u,by simpa using h1,h2⟩
def im.set {x:V}{u:o6}(r:ik x u):∀{xs:oj V}{us:oj o6} (i:Nat),im xs us->im (xs.set i x) (us.set i u)
 |_,_,_,.nil=> .nil
 |_,_,0,.cons _ t=> .cons r t
 |_,_,i+1,.cons q t=> .cons q (im.set r i t)
def im.append:∀{xs ys:oj V}{us ws:oj o6},im xs us->im ys ws->im (xs++ys) (us++ws)
 |_,_,_,_,.nil,s=>s
 |_,_,_,_,.cons r t,s=> .cons r (im.append t s)
def im.take:∀{xs:oj V}{us:oj o6} (n:Nat),im xs us->im (xs.take n) (us.take n)
 |_,_,0,_=> .nil
 |_,_,_+1,.nil=> .nil
 |_,_,n+1,.cons r t=> .cons r (im.take n t)
def im.drop:∀{xs:oj V}{us:oj o6} (n:Nat),im xs us->im (xs.drop n) (us.drop n)
 |_,_,0,r=>r
 |_,_,_+1,.nil=> .nil
 |_,_,n+1,.cons _ t=>im.drop n t
nonrec def nc:om V->om o6->Prop
 |some v,u_ u=>ik v u
 |none,U_=>True
 |_,_=>False
nonrec def KV {κ:Type}:oj (κ×V)->oj (κ×o6)->Prop:=Paired λ(p:κ×V) (q:κ×o6)=>p.1=q.1/\ik p.2 q.2
nonrec def kV:Key->V
 | .inl i=> .int i
 | .inr x=> .str x
inductive HO where
 |lst (xs:List V)
 |tup (xs:List V)
 |dK (kvs:List (Key×V))|dT (kvs:List (List Key×V))
 |set (S:Int->Bool)(n:Nat)
 |ins (C dx:Addr)(fs:List (Str×V))
 |own (x:Addr)
 |xd (fs:List (Str×V))
 |met (f x:Addr)
 |rng (lo hi:Int)
 |frz (o:Obj)(u:HO)
 |tbl (ps:Array Value)
 |ext (φ:Heap->Prop)
noncomputable abbrev Hp:=o3->om HO
nonrec def upd (H:Hp)(a:o3)(o:HO):Hp:=λb=>if b=a then u_ o else H b
variable {H:Hp}{a:o3}
def qg {o:HO}:upd H a o a=u_ o:=by unfold upd;rw[A3 rfl]
variable {b:o3}
def qj {o:HO}(h:b≠a):upd H a o b=H b:=by unfold upd;rw[A2 h]
def Acs {o u:HO}(h:H a=u_ o)(h':H b=u_ u)(d:o≠u):a≠b:=by
 intro e;subst e;rw[h] at h';exact d (uN h')
def qk {o:HO}(h:H a=u_ o)(h':H b=U_):a≠b:=by
 intro e;subst e;rw[h] at h';cases h'
section
variable (P:o9)(w:og)
nonrec def yf (H:Hp)(h:o8)(a:o3):HO->Prop
 | .lst xs=>↑xs<=V9/\∃(its:oj o6) (n:Nat),im xs its/\h.get? a=u_ {cls:= .type "list",data:= .seq its.toArray n}
 | .tup xs=>↑xs<=V9/\∃its:oj o6,im xs its/\GH h a its.toArray
 | .dK kvs=>↑kvs<=V9/\(a==Vv)=V6/\∃vs,KV kvs vs/\h.DictOf (Qu P w) a vs
 | .dT kvs=>↑kvs<=V9/\(a==Vv)=V6/\∃xs:oj (oj Key×o3×o6),
   Paired (λ(p:oj Key×V) (q:oj Key×o3×o6)=>p.1=q.1/\H q.2.1=u_ (.tup (p.1.map kV))/\ik p.2 q.2.2) kvs xs/\
   ∃o es ep,h.get? a=u_ o/\o.ExactDict/\o.data= .dict es ep/\es.toList=xs.map (entryOfKey (GK (Qu P w)))/\(xs.map (·.1)).Nodup
 | .set S n=>h.SetOf (intKind P w) a S n
 | .ins C dx fs=>H dx=u_ (.own a)/\↑fs<=1000/\dx≠a/\h.get? a=u_ (PySem.W.instObj C dx)/\
   ∃mA,h.Ns1 dx mA/\(∀f,nc (fs.lookup f) (mA f))/\PySem.Within mA (fs.map (·.1))
 | .own _=>∃o,h.get? a=u_ o
 | .xd fs=>∃mA,h.Ns1 a mA/\∀f,nc (fs.lookup f) (mA f)
 | .rng lo hi=>∃t u v,h.get? a=u_ {cls:= .type "range",data:= .fields #[.int lo t,.int hi u,.int 1 v]}
 | .frz o u=>h.get? a=u_ o/\yf H h a u
 | .tbl ps=>h.get? a=u_ {cls:= .none,data:= .fields ps}
 | .met f x=>h.get? a=u_ (PySem.W.methodObj (.ref f) (.ref x))
 | .ext φ=>φ h/\(∃o,h.get? a=u_ o)/\∀h1 h2:o8,φ h1->(∀o,h1.get? a=u_ o->h2.get? a=u_ o)->φ h2
nonrec def HOk (H:Hp)(h:o8):Prop:=∀a o,H a=u_ o->yf P w H h a o
end
section
variable {P:o9}{w:og}{H H':Hp}{h h':o8}{a:o3}{o:HO}
def yf.lt (x:yf P w H h a o):a<h.objs.size:=by
 cases o with
 |lst xs=>erw[x,_,_,_,_,e];exact uK e
 |tup xs=>erw[x,_,_,_,p];exact p.lt
 |dK kvs=>erw[x,_,_,_,_,o,_,_,e,_];exact uK e
 |dT kvs=>erw[x,_,_,_,_,o,_,_,e,_];exact uK e
 |set S n=>erw[x,o,_,_,_,e,_];exact uK e
 |ins C dx fs=>erw[x,_,_,_,e,_];exact uK e
 |own y=>erw[x,_,e];exact uK e
 |xd fs=>erw[x,_,[_,_,_,e,_],_];exact uK e
 |rng lo hi=>erw[x,_,_,_,e];exact uK e
 |frz ob u=>erw[x,e,_];exact uK e
 |tbl ps=>exact uK (show h.get? a=u_ _ from x)
 |met f y=>exact uK (show h.get? a=u_ _ from x)
 |ext φ=>erw[x,_,[_,e],_];exact uK e
def Paired.mapP {α β:Type}{F G:α->β->Prop}:∀{l₁:oj α}{l₂:oj β},Paired F l₁ l₂->(∀a b,F a b->G a b)->Paired G l₁ l₂
 |_,_,.nil,_=> .nil
 |_,_,.cons r t,f=> .cons (f _ _ r) (Paired.mapP t f)
def yf.stay (x:yf P w H h a o)(k:∀b u,(b=a∨H b=u_ (.own a))->h.get? b=u_ u->h'.get? b=u_ u)
  (O:∀b,H b=u_ (.own a)->H' b=u_ (.own a)) (U:∀b xs,H b=u_ (.tup xs)->H' b=u_ (.tup xs)):yf P w H' h' a o:=by
 induction o with
 |lst xs=>erw[x,z,its,n,r,e];exact⟨z,its,n,r,k _ _ (.inl rfl) e⟩
 |tup xs=>erw[x,z,its,r,ob,e,c];exact⟨z,its,r,ob,k _ _ (.inl rfl) e,c⟩
 |dK kvs=>erw[x,z,y,vs,r,ob,es,ep,e,c];exact⟨z,y,vs,r,ob,es,ep,k _ _ (.inl rfl) e,c⟩
 |dT kvs=>
  erw[x,z,y,xs,r,ob,es,ep,e,c];exact⟨z,y,xs,Paired.mapP r λp q z=>[z.1:U _ _ z.2.1:z.2.2],ob,es,ep,k _ _ (.inl rfl) e,c⟩
 |set S n=>erw[x,ob,es,ep,t,e,c];exact⟨ob,es,ep,t,k _ _ (.inl rfl) e,c⟩
 |ins C dx fs=>
  erw[x,d,z,ne,e,mA,[od,es,ep,Z,c],r];exact⟨O _ d,z,ne,k _ _ (.inl rfl) e,mA,⟨od,es,ep,k _ _ (.inr d) Z,c⟩,r⟩
 |own y=>erw[x,ob,e];exact[ob:k _ _ (.inl rfl) e]
 |xd fs=>erw[x,mA,[od,es,ep,e,c],r];exact[mA:⟨od,es,ep,k _ _ (.inl rfl) e,c⟩:r]
 |rng lo hi=>erw[x,t,u,v,e];exact⟨t,u,v,k _ _ (.inl rfl) e⟩
 |frz ob u ih=>erw[x,e,q];exact[k _ _ (.inl rfl) e:ih q]
 |tbl ps=>
  have e:h.get? a=u_ {cls:= .none,data:= .fields ps}:=x;show h'.get? a=u_ {cls:= .none,data:= .fields ps};exact k a _ (.inl rfl) e
 |met f y=>
  have e:h.get? a=u_ (PySem.W.methodObj (.ref f) (.ref y)):=x;show h'.get? a=u_ (PySem.W.methodObj (.ref f) (.ref y));exact k a _ (.inl rfl) e
 |ext φ=>erw[x,p,[o,e],st];exact[st _ _ p λo q=>k _ _ (.inl rfl) q:[o:k _ _ (.inl rfl) e]:st]
def HOk.lt (x:HOk P w H h)(e:H a=u_ o):a<h.objs.size:=(x a o e).lt
def HOk.fresh (x:HOk P w H h)(e:h.objs.size<=a):H a=none:=by
 cases q:H a with
 |none=>rfl
 |some u=>exact A7 (Vn (x.lt q) e) (vI _)
def HOk.kept (x:HOk P w H h)(k:∀b u,h.get? b=u_ u->h'.get? b=u_ u):HOk P w H h':=λa o e=>
 (x a o e).stay (λb u _ q=>k b u q) (λ_ q=>q) λ_ _ q=>q
def HOk.laid (x:HOk P w H h)(k:∀b u,h.get? b=u_ u->h'.get? b=u_ u)(U:h.objs.size<=a)(new:yf P w (upd H a o) h' a o):HOk P w (upd H a o) h':=λb u e=>by
 have hn:=x.fresh U;by_cases O:b=a
 ·subst O;rw[qg] at e;cases e;exact new
 ·rw[qj O] at e;exact(x b u e).stay (λc v _ q=>k c v q) (λc q=>by rwa[qj (qk q hn)]) λc xs q=>by rw[qj (qk q hn)];exact q
end
nonrec def Rd (H:Hp)(a:o3)(u:HO):Prop:=H a=u_ u∨∃o,H a=u_ (.frz o u)
def Rd.of {u:HO}(h:H a=u_ u):Rd H a u:= .inl h
variable {w:og}{h:o8}
def Rd.ok {P:o9}{u:HO}(r:Rd H a u)(x:HOk P w H h):yf P w H h a u:=by
 rcases r with r|⟨o,r⟩
 ·exact x a u r
 ·erw[x a _ r,_,q];exact q
nonrec def Mut:om HO->Prop
 |some (.lst _)=>True
 |some (.dK _)=>True
 |some (.dT _)=>True
 |some (.set _ _)=>True
 |some (.ins _ _ _)=>True
 |some (.ext _)=>True
 |_=>False
section
variable {P:o9}{w:og}{H:Hp}{h h':o8}{x e:o3}{o':HO}
def HOk.write (ok:HOk P w H h)(mu:Mut (H x))(he:e=x∨H e=u_ (.own x))(k:∀b u,b≠e->h.get? b=u_ u->h'.get? b=u_ u)(aa:∃u,h'.get? e=u_ u)
  (new:yf P w (upd H x o') h' x o'):HOk P w (upd H x o') h':=λb u q=>by
 have U:∀c y,H c=u_ (.own y)->c≠x:=λc y r z=>by subst z;rwa[r] at mu
 have Z:∀c xs,H c=u_ (.tup xs)->c≠x:=λc xs r z=>by subst z;rwa[r] at mu
 by_cases hb:b=x
 ·subst hb;rw[qg] at q;cases q;exact new
 ·rw[qj hb] at q;by_cases O:b=e
  ·have q':H b=u_ (.own x):=by
    rcases he with z|z
    ·exact A7 (O.trans z) hb
    ·rwa[O]
   rw[q] at q';cases q';erw[aa,v,hv];exact⟨v,by rwa[O]⟩
  ·refine(ok b u q).stay (λc v hc r=>k c v ?_ r) (λc r=>by rwa[qj (U c b r)]) λc xs r=>by rwa[qj (Z c xs r)]
   rcases hc with rfl|hc
   ·exact O
   ·rintro rfl;rcases he with z|z
    ·exact U c b hc z
    ·rw[hc] at z;cases z;exact hb rfl
end
structure Un (fs ex:oj o3)(H H':Hp)(h h':o8):Prop where
 keep:∀b o,h.get? b=u_ o->H b=U_->b∉fs->b∉ex->h'.get? b=u_ o
 slot:∀b o,h.get? b=u_ o->H b=U_->b∈fs->b∉ex->∃sl,h'.get? b=u_ {o with slots:=sl}
 free:∀b o,h.get? b=u_ o->H b=U_->b∉ex->H' b=U_
 there:∀b o,h.get? b=u_ o->b∉ex->∃o',h'.get? b=u_ o'
 tups:∀b xs,H b=u_ (.tup xs)->H' b=u_ (.tup xs)
 frzs:∀b o u,H b=u_ (.frz o u)->H' b=u_ (.frz o u)
 tbls:∀b ps,H b=u_ (.tbl ps)->∃more,H' b=u_ (.tbl (ps++more))
section
variable {fs fs' ex ex':oj o3}{H H1 H2:Hp}{h h1 h2 h':o8}{a x e:o3}{o:HO}
def Un.any (u:Un fs ex H H1 h h1){ob:Obj}(q:h.get? b=u_ ob)(n:H b=U_)(O:b∉ex):∃sl,h1.get? b=u_ {ob with slots:=sl}:=by
 by_cases U:b∈fs
 ·exact u.slot b ob q n U O
 ·exact[ob.slots:u.keep b ob q n U O]
def Un.trans (a:Un fs ex H H1 h h1)(b:Un fs ex H1 H2 h1 h2):Un fs ex H H2 h h2 where
 keep:=λc ob q n Z O=>b.keep c ob (a.keep c ob q n Z O) (a.free c ob q n O) Z O
 slot:=λc ob q n Z O=>by
  erw[a.slot c ob q n Z O,sl,U];erw[b.slot c _ U (a.free c ob q n O) Z O,aa,e2];exact[aa:e2]
 free:=λc ob q n O=>by
  erw[a.there c ob q O,o',U];exact b.free c o' U (a.free c ob q n O) O
 there:=λc ob q O=>by
  erw[a.there c ob q O,o',U];exact b.there c o' U O
 tups:=λc xs q=>b.tups c xs (a.tups c xs q)
 frzs:=λc ob xs q=>b.frzs c ob xs (a.frzs c ob xs q)
 tbls:=λc ps q=>by
  erw[a.tbls c ps q,m1,U];erw[b.tbls c _ U,m2,e2];exact⟨m1++m2,by rw[e2,HY]⟩
def Un.kept (k:∀b u,h.get? b=u_ u->h'.get? b=u_ u):Un fs ex H H h h':=
 ⟨λb ob q _ _ _=>k b ob q,λb ob q _ _ _=>[ob.slots:k b ob q],λ_ _ _ n _=>n,λb ob q _=>[ob:k b ob q],λ_ _ q=>q,λ_ _ _ q=>q,λ_ ps q=>⟨#[],by rw[q];simp⟩⟩
def Un.refl:Un fs ex H H h h:=Un.kept λ_ _ q=>q
def Un.laid (k:∀b u,h.get? b=u_ u->h'.get? b=u_ u)(O:h.objs.size<=a)(hn:H a=U_):Un fs ex H (upd H a o) h h' where
 keep:=λb u q _ _ _=>k b u q
 slot:=λb u q _ _ _=>[u.slots:k b u q]
 free:=λb u q n _=>by rwa[qj (uR (Vn (uK q) O))]
 there:=λb u q _=>[u:k b u q]
 tups:=λb xs q=>by rwa[qj (qk q hn)]
 frzs:=λb u xs q=>by rwa[qj (qk q hn)]
 tbls:=λb ps q=>⟨#[],by rw[qj (qk q hn),q];simp⟩
def Un.write (mu:Mut (H x))(he:e=x∨H e=u_ (.own x))(k:∀b u,b≠e->h.get? b=u_ u->h'.get? b=u_ u)(U:∃u,h'.get? e=u_ u):Un fs ex H (upd H x o) h h':=by
 have Z:∀b,H b=U_->b≠x:=λb n z=>by subst z;rwa[n] at mu
 have hb:∀b,H b=U_->b≠e:=λb n z=>by
  subst z;rcases he with r|r
  ·exact Z b n r
  ·rw[n] at r;cases r
 have hm:∀b u,H b=u_ u->¬Mut (u_ u)->b≠x:=λb u q nm z=>by subst z;rw[q] at mu;exact nm mu
 refine⟨λb u q n _ _=>k b u (hb b n) q,λb u q n _ _=>[u.slots:k b u (hb b n) q],λb u q n _=>by rwa[qj (Z b n)],λb u q _=>?_,
  λb xs q=>by rwa[qj (hm b _ q λz=>z)],λb u xs q=>by rwa[qj (hm b _ q λz=>z)],λb ps q=>⟨#[],by rw[qj (hm b _ q λz=>z),q];simp⟩⟩
 by_cases O:b=e
 ·subst O;exact U
 ·exact[u:k b u O q]
end
nonrec def trk (h:o8)(H:Hp):oj o3:=(Vh h.objs.size).filter λa=>(H a).isSome
nonrec def LK (h:o8)(H:Hp):o8:=PySem.W.hideAll h (trk h H)
def Et (h:o8)(H:Hp):(LK h H).objs.size=h.objs.size:=PySem.W.hideAll_size _ _
variable {o:Obj}
def LJ (e:h.get? b=u_ o)(n:H b=U_):(LK h H).get? b=u_ o:=
 PySem.W.hideAll_get _ e λhm=>by
  have q:(H b).isSome=true:=(List.mem_filter.mp hm).2;rw[n] at q;simp at q
def OX (e:(LK h H).get? b=u_ o):h.get? b=u_ o/\H b=none:=by
 have O:h.get? b=u_ o:=PySem.W.of_hideAll (trk h H) e;exists O;cases q:H b with
 |none=>rfl
 |some x=>
  have hm:b∈trk h H:=List.mem_filter.mpr ⟨List.mem_range.mpr (uK O),by simp[q]⟩
  have z:(LK h H).get? b=none:=PySem.W.hideAll_none (trk h H) hm;rw[z] at e;cases e
structure Mod (K:o0)(mg:Str->om o6)(base:o8):Prop where
 kin:K.In base
 glob:base.Ns Vw mg
 blt:∃mb,base.Ns Tc mb/\∀x:Str,x≠"__name__"->mb x=Gj x
 nolimit:base.NoLimit
structure Cx where
 prog:o9
 w:og
 K:o0
 mg:Str->om o6
 base:o8
 A:oh
 N:oj Str
 s₀:o7
 H₀:Hp
 env:Env
 outer:oj Env
 stack:oj Env
 ex:oj o3
 fn:Str->Bool
 calm:Bool
 pn:oj (o3×Obj)
 xe:o6->o7->Prop
nonrec def frs (l:oj Env):oj o3:=l.filterMap (·.frame)
noncomputable abbrev Cx.fs (X:Cx):oj o3:=frs X.outer
nonrec def Vis (sc:Vr)(x:Str):Prop:=sc.names.lookup x=u_ .local∨sc.names.lookup x=u_ .cell∨sc.names.lookup x=u_ .free
nonrec def Loc (sc:Vr)(x:Str):Prop:=sc.names.lookup x=u_ .local∨sc.names.lookup x=u_ .cell
nonrec def AdV (env:Env)(h:o8)(m:Str->om o6)(x:Str)(u:o6):Prop:=
 (env.kindOf x=u_ .local/\m x=u_ u)∨((env.kindOf x=u_ .cell∨env.kindOf x=u_ .free)/\∃c,env.cells.lookup x=u_ c/\h.IsCell c (u_ u))
structure Cx.Ok (X:Cx):Prop where
 mod:Mod X.K X.mg X.base
 kind:X.env.scope.kind= .function
 glob:X.env.globals=Vw
 blt:X.env.builtins=Tc
 above:X.s₀.heap.objs.size<=X.env.locals
 inj:∀x y c,X.env.cells.lookup x=u_ c->X.env.cells.lookup y=u_ c->x=y
 has:∀x,(X.env.kindOf x=u_ .cell∨X.env.kindOf x=u_ .free)->∃c,X.env.cells.lookup x=u_ c
 cab:∀x c,X.fn x=v_->X.env.cells.lookup x=u_ c->X.s₀.heap.objs.size<=c
 hd:X.calm=v_->X.A.handled=U_
 frames:X.A.frames=u_ X.stack
 stk:X.stack=X.outer∨(X.stack=X.env::X.outer/\X.env.frame=u_ X.env.locals)
 exf:∀b∈X.ex,b≠X.env.locals/\∀x c,X.env.cells.lookup x=u_ c->c≠b
 bs:∀b o,X.base.get? b=u_ o->X.s₀.heap.get? b=u_ o/\X.H₀ b=U_
 bsz:X.base.objs.size<=X.s₀.heap.objs.size
 noex:∀b o,X.base.get? b=u_ o->b∉X.ex
 exfs:∀b∈X.ex,b∉X.fs
 funs:X.s₀.heap.FunFrames X.base X.outer
 frf:∀b∈X.fs,X.H₀ b=U_
structure Inv (X:Cx)(oq:oj (o3×Obj))(σ:oj (om V))(H:Hp)(s:o7):Prop where
 ok:X.Ok
 os:s.os=X.s₀.os
 bare:VV s.gens
 base:Un X.fs X.ex X.H₀ H X.s₀.heap s.heap
 loc:∃m,s.heap.Ns X.env.locals m/\∀(i:Nat) (x:Str) (v:V),X.N[i]? =u_ x->σ[i]? =u_ (u_ v)->Vis X.env.scope x->∃u,ik v u/\AdV X.env s.heap m x u
 cell:∀x c,X.env.cells.lookup x=u_ c->∃v,s.heap.IsCell c v
 free:H X.env.locals=U_
 freeC:∀x c,X.env.cells.lookup x=u_ c->H c=U_
 pin:∀p∈X.pn++oq,s.heap.get? p.1=u_ p.2/\H p.1=U_/\p.1≠X.env.locals/\p.1∉X.fs/\∀v,p.2.data≠ .cell v
 hok:HOk X.prog X.w H s.heap
 len:↑σ=↑X.N
 tk:0<s.toks
section
variable {X:Cx}{oq:oj (o3×Obj)}{σ:oj (om V)}{H H':Hp}{s:o7}{h':o8}
def Cx.Ok.nofr (ok:X.Ok)(e:X.base.get? b=u_ o):b∉X.fs:=λO=>by
 have:=(ok.funs.mem O).1;rw[e] at this;cases this
def Inv.bs (I:#[I]):∀b o,X.base.get? b=u_ o->s.heap.get? b=u_ o/\H b=none:=λb o e=>
 [I.base.keep b o (I.ok.bs b o e).1 (I.ok.bs b o e).2 (I.ok.nofr e) (I.ok.noex b o e):I.base.free b o (I.ok.bs b o e).1 (I.ok.bs b o e).2 (I.ok.noex b o e)]
def Inv.bk (I:#[I]):∀b o,X.base.get? b=u_ o->s.heap.get? b=u_ o:=λb o e=>(I.bs b o e).1
def Inv.mod (I:#[I]):Mod X.K X.mg X.base:=I.ok.mod
def Inv.kIn (I:#[I]):X.K.In s.heap:=I.ok.mod.kin.keeps I.bk
def Inv.lt (I:#[I]):X.env.locals<#[0,s]:=let⟨_,hn,_⟩:=I.loc;hn.lt
def Inv.sz (I:#[I]):X.s₀.heap.objs.size<=#[0,s]:=uT I.ok.above (UE I.lt)
def Inv.nofs (I:#[I])(h:#[0,s]<=a):a∉X.fs:=λO=>by
 erw[I.ok.funs.mem O,_,o,U,_];exact A7 (Vn (uK U) (uT I.sz h)) (vI _)
def Inv.cne (I:#[I]):∀x c,X.env.cells.lookup x=u_ c->c≠X.env.locals:=λx c e z=>by
 erw[I.cell x c e,v,o,Z,hd];erw[I.loc,m,[o',es,ep,O,U,_],_];rw[z,O] at Z;cases Z;rw[U] at hd;cases hd
def Inv.funs (I:#[I]):s.heap.FunFrames X.base X.outer:=by
 have all:∀(l:oj Env),(∀b∈frs l,b∈X.fs)->X.s₀.heap.FunFrames X.base l->s.heap.FunFrames X.base l:=by
  intro l
  induction l with
  |nil=>intro _ _;trivial
  |cons env r ih=>
   intro hs hl;erw[hl,hk,[L,o,O,hn,ho,hd],hr];have U:L∈X.fs:=hs L (by unfold frs;rw[vQ,O];exact uj)
   obtain⟨sl,e⟩:=I.base.slot L o ho (I.ok.frf L U) U λz=>I.ok.exfs L z U;exact⟨hk,⟨L,_,O,hn,e,hd⟩,ih (λb Z=>hs b (by unfold frs;rw[vQ,O];exact ui _ Z)) hr⟩
 exact all X.outer (λ_ Z=>Z) I.ok.funs
def Inv.stack (I:#[I]):s.heap.FunFrames X.base X.stack:=by
 rcases I.ok.stk with e|⟨e,O⟩
 ·rw[e];exact I.funs
 ·rw[e];erw[I.loc,m,hn,_];refine .cons (by rw[I.ok.kind];decide) O hn ?_ I.funs
  exact Heap.get?_none_of_le (uT I.ok.bsz I.ok.above)
def Inv.stkSub (I:#[I]):∀b∈frs X.stack,b∈X.env.locals::X.fs:=λb O=>by
 rcases I.ok.stk with e|⟨e,U⟩
 ·rw[e] at O;exact ui _ O
 ·rw[e] at O;unfold frs at O;rwa[vQ,U] at O
def Inv.stkFree (I:#[I]):∀b∈frs X.stack,H b=none:=λb O=>by
 rcases A9.mp (I.stkSub b O) with e|O
 ·rw[e];exact I.free
 ·erw[I.ok.funs.mem O,_,o,U,_];exact I.base.free b o U (I.ok.frf b O) λz=>I.ok.exfs b z O
def Inv.step {g':Array Hj}{t':Nat}{d':Drawn}{ch:oj o3}(I:#[I])
  (U:∀b∈ch,(b∈X.ex∨X.s₀.heap.objs.size<=b)/\b≠X.env.locals/\(∀x c,X.env.cells.lookup x=u_ c->c≠b)/\∀p∈X.pn++oq,p.1≠b)
  (keep:∀b o,b≠X.env.locals->b∉X.fs->b∉ch->s.heap.get? b=u_ o->H b=U_->h'.get? b=u_ o)
  (slot:∀b o,b≠X.env.locals->b∈X.fs->b∉ch->s.heap.get? b=u_ o->H b=U_->∃sl,h'.get? b=u_ {o with slots:=sl}) (free:∀b o,b∉ch->s.heap.get? b=u_ o->H b=U_->H' b=U_)
  (there:∀b o,b∉ch->s.heap.get? b=u_ o->∃o',h'.get? b=u_ o')
  (tups:∀b xs,H b=u_ (.tup xs)->H' b=u_ (.tup xs)) (frzs:∀b o u,H b=u_ (.frz o u)->H' b=u_ (.frz o u)) (tbls:∀b ps,H b=u_ (.tbl ps)->∃more,H' b=u_ (.tbl (ps++more)))
  (ns:∀m,s.heap.Ns X.env.locals m->h'.Ns X.env.locals m) (hok:HOk X.prog X.w H' h') (hg:VV g') (ht:0<t':=by ac_rfl):
  Inv X oq σ H' {s with heap:=h',gens:=g',drawn:=d',toks:=t'}:=by
 have ad:∀b o,X.s₀.heap.get? b=u_ o->b≠X.env.locals:=λb o e=>uR (Vn (uK e) I.ok.above);have ac:∀b o,X.s₀.heap.get? b=u_ o->b∉X.ex->b∉ch:=λb o e O hb=>by
  rcases(U b hb).1 with z|z
  ·exact O z
  ·exact A7 (Vn (uK e) z) (vI _)
 have Z:∀x c,X.env.cells.lookup x=u_ c->∀v,s.heap.IsCell c v->h'.IsCell c v:=λx c e v ⟨o,ho,hd⟩=>by
  have aa:c∉ch:=λz=>(U c z).2.2.1 x c e rfl;by_cases hc:c∈X.fs
  ·erw[slot c o (I.cne x c e) hc aa ho (I.freeC x c e),sl,q];exact[_:q:hd]
  ·exact[o:keep c o (I.cne x c e) hc aa ho (I.freeC x c e):hd]
 exists I.ok,I.os,hg,⟨λb o e n hb O=>?_,λb o e n hb O=>?_,λb o e n O=>?_,λb o e O=>?_,λb xs e=>tups b xs (I.base.tups b xs e),λb o xs e=>frzs b o xs (I.base.frzs b o xs e),λb ps e=>?_⟩,?_,λx c e=>?_,?_,λx c e=>?_,λp hp=>?_,hok,I.len,ht
 ·exact keep b o (ad b o e) hb (ac b o e O) (I.base.keep b o e n hb O) (I.base.free b o e n O)
 ·erw[I.base.slot b o e n hb O,sl,e1];erw[slot b _ (ad b o e) hb (ac b o e O) e1 (I.base.free b o e n O),ae,e2];exact[ae:e2]
 ·erw[I.base.there b o e O,o',e1];exact free b o' (ac b o e O) e1 (I.base.free b o e n O)
 ·erw[I.base.there b o e O,o',e1];exact there b o' (ac b o e O) e1
 ·erw[I.base.tbls b ps e,m1,e1];erw[tbls b _ e1,m2,e2];exact⟨m1++m2,by rw[e2,HY]⟩
 ·erw[I.loc,m,hn,hl];exists m,ns m hn,λi x v e1 e2 e3=>?_;erw[hl i x v e1 e2 e3,u,r,l];exists u,r;rcases l with l|⟨k,c,e,z⟩
  ·exact .inl l
  ·exact .inr ⟨k,c,e,Z x c e _ z⟩
 ·erw[I.cell x c e,v,z];exact[v:Z x c e v z]
 ·erw[I.loc,m,[o,_,_,ho,_],_];exact free _ o (λz=>(U _ z).2.1 rfl) ho I.free
 ·erw[I.cell x c e,v,o,ho,hd];exact free c o (λz=>(U c z).2.2.1 x c e rfl) ho (I.freeC x c e)
 ·erw[I.pin p hp,e,n,ne,nf,d];have aa:p.1∉ch:=λz=>(U p.1 z).2.2.2 p hp rfl;exact⟨keep p.1 p.2 ne nf aa e n,free p.1 p.2 aa e n,ne,nf,d⟩
variable {t':Nat}
def Inv.un (I:#[I])(u:Un X.fs [] H H' s.heap h')(hok:HOk X.prog X.w H' h')(ht:0<t':=by ac_rfl):Inv X oq σ H' {s with heap:=h',toks:=t'}:=by
 erw[id I.loc,m,[o,es,ep,ho,r],_];obtain⟨sl,hL⟩:=u.any ho I.free (by simp)
 exact I.step (g':=s.gens) (d':=s.drawn) (ch:= []) (λ_ z=>nomatch z) (λb o _ U _ e n=>u.keep b o e n U (by simp)) (λb o _ U _ e n=>u.slot b o e n U (by simp)) (λb o _ e n=>u.free b o e n (by simp)) (λb o _ e=>u.there b o e (by simp)) u.tups u.frzs u.tbls (λm' hm=>by
  erw[hm,o',es',Z,O,r'];rw[ho] at O;cases O;exact⟨_,es',Z,hL,r'⟩) hok I.bare
def Inv.call {g':Array Hj}{t':Nat}{d':Drawn}{ch:oj o3}(I:#[I])(u:Un (frs X.stack) ch H H' s.heap h')(hok:HOk X.prog X.w H' h')(hg:VV g')
  (U:∀b∈ch,(b∈X.ex∨X.s₀.heap.objs.size<=b)/\b≠X.env.locals/\(∀x c,X.env.cells.lookup x=u_ c->c≠b)/\∀p∈X.pn++oq,p.1≠b) (ht:0<t':=by ac_rfl):
  Inv X oq σ H' {s with heap:=h',gens:=g',drawn:=d',toks:=t'}:=by
 erw[id I.loc,m,[o,es,ep,ho,r],_];obtain⟨sl,hL⟩:=u.any ho I.free λz=>(U _ z).2.1 rfl;exact I.step (ch:=ch) U (λb o hL hb O e n=>u.keep b o e n (λz=>(A9.mp (I.stkSub b z)).elim hL hb) O) (λb o _ _ O e n=>u.any e n O) (λb o O e n=>u.free b o e n O) (λb o O e=>u.there b o e O) u.tups u.frzs u.tbls (λm' hm=>by
  erw[hm,o',es',aa,Z,r'];rw[ho] at Z;cases Z;exact⟨_,es',aa,hL,r'⟩) hok hg
def Inv.turned {t':Nat}{it:o3}(I:#[I])(k:∀b o,b≠it->s.heap.get? b=u_ o->h'.get? b=u_ o)(hn:H it=U_)(Z:it≠X.env.locals)
  (h1:it∈X.ex∨X.s₀.heap.objs.size<=it) (h2:∀x c,X.env.cells.lookup x=u_ c->c≠it) (h3:∀p∈X.pn++oq,p.1≠it) (ht:0<t':=by ac_rfl):Inv X oq σ H {s with heap:=h',toks:=t'}:=by
 have U:∀b u,H b=u_ u->b≠it:=λb u e z=>by rw[z,hn] at e;cases e
 refine I.step (g':=s.gens) (d':=s.drawn) (ch:= [it]) (λb hb=>?_) (λb o _ _ O e _=>k b o (λz=>O (by simp[z])) e) (λb o _ _ O e _=>⟨o.slots,k b o (λz=>O (by simp[z])) e⟩) (λ_ _ _ _ n=>n)
  (λb o O e=>⟨o,k b o (λz=>O (by simp[z])) e⟩) (λ_ _ e=>e) (λ_ _ _ e=>e) (λb ps e=>⟨#[],by rw[e];simp⟩) (λm hm=>?_) (λb u e=>?_) I.bare
 ·have e:b=it:=by simpa using hb
  subst e;exact⟨h1,Z,h2,h3⟩
 ·erw[hm,o,es,ep,ho,r];exact⟨o,es,ep,k _ o (Ux Z) ho,r⟩
 ·refine(I.hok b u e).stay (λc v O q=>k c v ?_ q) (λ_ q=>q) λ_ _ q=>q;rcases O with z|z
  ·rw[z];exact U b u e
  ·exact U c _ z
def Inv.tok (I:#[I])(t:Nat)(O:0<t:=by ac_rfl):Inv X oq σ H {s with toks:=t}:=I.un (h':=s.heap) (t':=t) Un.refl I.hok
def Inv.kept (I:#[I])(k:∀b u,s.heap.get? b=u_ u->h'.get? b=u_ u)(O:0<t':=by ac_rfl):Inv X oq σ H {s with heap:=h',toks:=t'}:=I.un (Un.kept k) (I.hok.kept k)
def Inv.laid {o:HO}(I:#[I])(k:∀b u,s.heap.get? b=u_ u->h'.get? b=u_ u)(O:#[0,s]<=a)(new:yf X.prog X.w (upd H a o) h' a o)(U:0<t':=by ac_rfl):
  Inv X oq σ (upd H a o) {s with heap:=h',toks:=t'}:=I.un (Un.laid k O (I.hok.fresh O)) (I.hok.laid k O new)
def Inv.write {x e:o3}{o:HO}{t':Nat}(I:#[I])(mu:Mut (H x))(U:e=x∨H e=u_ (.own x))(k:∀b u,b≠e->s.heap.get? b=u_ u->h'.get? b=u_ u)(O:∃u,h'.get? e=u_ u)
  (new:yf X.prog X.w (upd H x o) h' x o) (Z:0<t':=by ac_rfl):Inv X oq σ (upd H x o) {s with heap:=h',toks:=t'}:=I.un (Un.write mu U k O) (I.hok.write mu U k O new)
def Inv.pins_of {O:oj (o3×Obj)}(I:#[I])(h:∀p∈O,s.heap.get? p.1=u_ p.2/\H p.1=U_/\p.1≠X.env.locals/\p.1∉X.fs/\∀v,p.2.data≠ .cell v):Inv X O σ H s:=
 ⟨I.ok,I.os,I.bare,I.base,I.loc,I.cell,I.free,I.freeC,λp U=>(Ab.mp U).elim (λz=>I.pin p (vq _ z)) (h p),I.hok,I.len,I.tk⟩
variable {i j:Nat}{x:Str}
def Bb {N:oj Str}(O:N.Nodup)(a:N[i]? =u_ x)(b:N[j]? =u_ x):i=j:=by
 erw[Ae.mp a,h1,U];erw[Ae.mp b,h2,Z];exact(List.getElem_inj O).mp (U.trans Z.symm)
def nB {M:Gz}{A:oh}{E:o6->o7->Prop}{i:Nat}{x:Str}{v:V}{u:o6}{Q:Unit->o7->Prop}(I:#[I])(hN:X.N.Nodup)(hi:X.N[i]? =u_ x)(hx:Loc X.env.scope x)(r:ik v u)
  (h:∀s',Inv X oq (σ.set i (u_ v)) H s'->(∃a,Gr a s.heap s'.heap/\(a=X.env.locals∨X.env.cells.lookup x=u_ a))->Q VH s') (hf:X.fn x=v_∨X.env.scope.names.lookup x=u_ .local:=by first|exact .inl rfl|exact .inr rfl|assumption):V7 M A (HJ X.env x u) Q E s:=by
 erw[id I.loc,m,hn,hl];have ad:(X.env.scope.kind== .class||(X.env.scope.kind== .module&&X.env.locals !=X.env.globals))=false:=by rw[I.ok.kind];rfl
 have ae:i<↑σ:=by rw[I.len];exact(Ae.mp hi).1
 have cne:=I.cne;have U:∀{a:o3}{h':o8},(∃o,s.heap.get? a=u_ o/\H a=U_)->Gr a s.heap h'->HOk X.prog X.w H h':=λ{a h'} ha O b ob e=>by
  erw[ha,_,_,aa];refine(I.hok b ob e).stay (λc w' hc q=>(O.2 c ?_).trans q) (λ_ q=>q) λ_ _ q=>q;rintro rfl;rcases hc with rfl|hc
  ·rw[aa] at e;cases e
  ·rw[aa] at hc;cases hc
 rcases hx with hk|hk
 ·refine rO hk hn (λh' al O=>?_) ad;erw[id hn,oL,_,_,am,_];refine h _ ⟨I.ok,I.os,I.bare,⟨λb o e n hb hx=>?_,λb o e n hb hx=>?_,I.base.free,λb o e hx=>?_,I.base.tups,I.base.frzs,I.base.tbls⟩,[_:al:λj y v' Z e2 e3=>?_],λy c e=>?_,I.free,I.freeC,λp hp=>?_,U [oL:am:I.free] O,by simpa using I.len,by first|exact I.tk|exact tH _⟩ [_:O:.inl rfl]
  ·exact(O.2 b (uR (Vn (uK e) I.ok.above))).trans (I.base.keep b o e n hb hx)
  ·erw[I.base.slot b o e n hb hx,sl,Z];exact[sl:(O.2 b (uR (Vn (uK e) I.ok.above))).trans Z]
  ·erw[I.base.there b o e hx,o',Z];exact[o':(O.2 b (uR (Vn (uK e) I.ok.above))).trans Z]
  ·by_cases hj:j=i
   ·subst hj;rw[hi] at Z;cases Z;rw[Fu ae] at e2;cases e2;exact⟨u,r,.inl ⟨hk,by simp⟩⟩
   ·rw[Fw (Ux hj)] at e2;erw[hl j y v' Z e2 e3,u',r',q];exists u',r';rcases q with⟨k,e⟩|⟨k,c,e,z⟩
    ·refine .inl [k:?_];have:y≠x:=λe=>hj (Bb hN Z (e▸hi));simp[this,e]
    ·exact .inr ⟨k,c,e,z.sameBut O (cne y c e)⟩
  ·erw[I.cell y c e,w',z];exact[w':z.sameBut O (cne y c e)]
  ·erw[I.pin p hp,e,n,ne,nf,d];exact⟨(O.2 p.1 ne).trans e,n,ne,nf,d⟩
 ·have ac:X.fn x=true:=by
   rcases hf with z|z
   ·exact z
   ·rw[z] at hk;cases hk
  erw[I.ok.has x (.inl hk),c,hc];erw[I.cell x c hc,w',z];refine wpAny_storeName_cell I.ok.kind hk hc z (λh' af O=>?_);erw[id z,oc,ag,ah];refine h {s with heap:=h'} ⟨I.ok,I.os,I.bare,⟨λb o e n hb hx=>?_,λb o e n hb hx=>?_,I.base.free,λb o e hx=>?_,I.base.tups,I.base.frzs,I.base.tbls⟩,[m:hn.sameBut O (Ux (cne x c hc)):λj y v' Z e2 e3=>?_],λy c' e=>?_,I.free,I.freeC,λp hp=>?_,U [oc:ag:I.freeC x c hc] O,by simpa using I.len,by first|exact I.tk|exact tH _⟩ [c:O:.inr hc]
  ·exact(O.2 b (uR (Vn (uK e) (I.ok.cab x c ac hc)))).trans (I.base.keep b o e n hb hx)
  ·erw[I.base.slot b o e n hb hx,sl,Z];exact[sl:(O.2 b (uR (Vn (uK e) (I.ok.cab x c ac hc)))).trans Z]
  ·erw[I.base.there b o e hx,o',Z];exact[o':(O.2 b (uR (Vn (uK e) (I.ok.cab x c ac hc)))).trans Z]
  ·by_cases hj:j=i
   ·subst hj;rw[hi] at Z;cases Z;rw[Fu ae] at e2;cases e2;exact[u:r:.inr ⟨.inl hk,c,hc,af⟩]
   ·rw[Fw (Ux hj)] at e2;erw[hl j y v' Z e2 e3,u',r',q];exists u',r';rcases q with q|⟨k,c',e,z'⟩
    ·exact .inl q
    ·refine .inr ⟨k,c',e,z'.sameBut O ?_⟩;rintro rfl;exact hj (Bb hN Z (I.ok.inj _ _ _ e hc▸hi))
  ·by_cases ak:c'=c
   ·subst ak;exact[_:af]
   ·erw[I.cell y c' e,w2,z2];exact[w2:z2.sameBut O ak]
  ·erw[I.pin p hp,e,n,ne,nf,d];exists (O.2 p.1 ?_).trans e,n,ne,nf,d;intro q;rw[q,ag] at e;have q':oc=p.2:=uN e;exact d w' (by rwa[<-q'])
def KQ {M:Gz}{A:oh}{E:o6->o7->Prop}{i:Nat}{x:Str}{v:V}{u:o6}{Q:Unit->o7->Prop}(I:#[I])(O:X.N.Nodup)(hi:X.N[i]? =u_ x)(U:Loc X.env.scope x)(r:ik v u)
  (h:∀s',Inv X oq (σ.set i (u_ v)) H s'->Q VH s') (Z:X.fn x=v_∨X.env.scope.names.lookup x=u_ .local:=by first|exact .inl rfl|exact .inr rfl|assumption):V7 M A (HJ X.env x u) Q E s:=
 nB I O hi U r (λs' I' _=>h s' I') Z
def Inv.call' {s':o7}{ch:oj o3}(I:#[I])(U:s'.os=s.os)(u:Un (frs X.stack) ch H H' s.heap s'.heap)(hok:HOk X.prog X.w H' s'.heap)(Z:VV s'.gens)
  (O:∀b∈ch,(b∈X.ex∨X.s₀.heap.objs.size<=b)/\b≠X.env.locals/\(∀x c,X.env.cells.lookup x=u_ c->c≠b)/\∀p∈X.pn++oq,p.1≠b) (ht:0<s'.toks:=by ac_rfl):Inv X oq σ H' s':=by
 erw[s',h',g',d',t',o'];have e:o'=s.os:=U;subst e;exact I.call (g':=g') (t':=t') (d':=d') u hok Z O
end
noncomputable abbrev XK:=o6->om o3->Hp->Prop
noncomputable abbrev St:=oj (om V)
noncomputable abbrev VK:=V->Hp->Prop
noncomputable abbrev TE:=St->Hp->VK->Prop
noncomputable abbrev TT:=St->Hp->(Bool->Hp->Prop)->Prop
noncomputable abbrev TA:=St->Hp->(oj V->Hp->Prop)->Prop
structure mU where
 nx:St->Hp->Prop
 rt:VK
 bk:St->Hp->Prop:=λ_ _=>False
 ct:St->Hp->Prop:=λ_ _=>False
noncomputable abbrev TS:=mU->St->Hp->Prop
nonrec def EP (X:Cx)(oq:oj (o3×Obj))(σ:St)(Q:VK)(u:o6)(s':o7):Prop:=∃v H',Inv X oq σ H' s'/\ik v u/\Q v H'
nonrec def TP (X:Cx)(oq:oj (o3×Obj))(σ:St)(Q:Bool->Hp->Prop)(b:Bool)(s':o7):Prop:=∃H',Inv X oq σ H' s'/\Q b H'
nonrec def AP (X:Cx)(oq:oj (o3×Obj))(σ:St)(Q:oj V->Hp->Prop)(us:oj o6)(s':o7):Prop:=∃vs H',Inv X oq σ H' s'/\im vs us/\Q vs H'
nonrec def SP (X:Cx)(oq:oj (o3×Obj))(D:mU)(f:Flow)(s':o7):Prop:=
 match f with
 | .next=>∃σ' H',Inv X oq σ' H' s'/\D.nx σ' H'
 | .brk=>∃σ' H',Inv X oq σ' H' s'/\D.bk σ' H'
 | .cont=>∃σ' H',Inv X oq σ' H' s'/\D.ct σ' H'
 | .ret u=>∃v σ' H',Inv X oq σ' H' s'/\ik v u/\D.rt v H'
nonrec def PE (X:Cx)(e:Expr)(t:TE):Prop:=
 ∀(oq:oj (o3×Obj)) (s:o7) (σ:St) (H:Hp) (Q:VK),#[I]->t σ H Q->V7 #[X,X] X.A (eval e X.env) (EP X oq σ Q) X.xe s
nonrec def PT (X:Cx)(e:Expr)(t:TT):Prop:=
 ∀(oq:oj (o3×Obj)) (s:o7) (σ:St) (H:Hp) (Q:Bool->Hp->Prop),#[I]->t σ H Q->V7 #[X,X] X.A (isTrue e X.env (eval e X.env)) (TP X oq σ Q) X.xe s
nonrec def PW (X:Cx)(e:Expr)(t:TT):Prop:=
 ∀(whole:Sem o6) (oq:oj (o3×Obj)) (s:o7) (σ:St) (H:Hp) (Q:Bool->Hp->Prop),#[I]->t σ H Q->V7 #[X,X] X.A (isTrue e X.env whole) (TP X oq σ Q) X.xe s
variable {X:Cx}
def PW.pt {e:Expr}{t:TT}(h:PW X e t):PT X e t:=h _
nonrec def PA (X:Cx)(es:oj Expr)(t:TA):Prop:=
 ∀(pos:Pos) (oq:oj (o3×Obj)) (s:o7) (σ:St) (H:Hp) (Q:oj V->Hp->Prop),#[I]->t σ H Q->V7 #[X,X] X.A (spliced (Vm pos (Vc es X.env))) (AP X oq σ Q) X.xe s
nonrec def PS (X:Cx)(st:Stmt)(t:TS):Prop:=
 ∀(oq:oj (o3×Obj)) (s:o7) (σ:St) (H:Hp) (D:mU),#[I]->t D σ H->V7 #[X,X] X.A (exec st X.env) (SP X oq D) X.xe s
nonrec def PSs (X:Cx)(st:oj Stmt)(t:TS):Prop:=
 ∀(oq:oj (o3×Obj)) (s:o7) (σ:St) (H:Hp) (D:mU),#[I]->t D σ H->V7 #[X,X] X.A (execs st X.env) (SP X oq D) X.xe s
variable {A:oh}{s:o7}
def thn {α:Type}{t:Sem α}{Q O:α->o7->Prop}{M:Gz}{E:o6->o7->Prop}(h:V7 M A t Q E s)(U:∀a s,Q a s->O a s):V7 M A t O E s:=vD h U λ_ _ x=>x
section
variable {X:Cx}
inductive SG (i:Nat)(σ:St)(H:Hp)(Q:VK):Prop
 |mk (v:_)(_:σ[i]? =u_ (u_ v))(_:Q v H)
nonrec def tC (v:V):TE:=λ_ H Q=>Q v H
variable {i:Nat}{x:Str}
def Aau {pos:Pos}(hN:X.N[i]? =u_ x)(hv:Vis X.env.scope x)(hd:(x==("__debug__":Str))=false:=by decide)(Z:(x==("__classdict__":Str))=false:=by decide):PE X (.Name x pos) (SG i):=by
 exists 2,Q,I,h;erw[h,v,e,h];erw[I.loc,m,hn,hl];erw[hl i x v hN e hv,u,r,l];have fin:EP X oq σ Q u s:=⟨v,H,I,r,h⟩;rcases l with⟨U,hm⟩|⟨U,c,hc,O⟩
 ·exact T5 (TR I.ok.kind U hn hm fin) hd
 ·rcases U with U|U
  ·exact T5 (FU I.ok.kind U hc O fin) hd
  ·exact T5 (wpAny_loadName_free I.ok.kind U hc O fin Z) hd
def qh {i j pos}:PE X (.Constant (.int i) j pos) (tC (.int i)):=λ_ _ _ H _ I h=>wpAny_Constant_int ⟨.int i,H,I.tok _,⟨0⟩,h⟩
def YV {b j pos}:PE X (.Constant (.bool b) j pos) (tC (.bl b)):=λ_ _ _ H _ I h=>Constant_bool ⟨.bl b,H,I,1,h⟩
def qT {j pos}:PE X (.Constant .none j pos) (tC .non):=λ_ _ _ H _ I h=>Constant_none ⟨.non,H,I,1,h⟩
def ql {x j pos}:PE X (.Constant (.str x) j pos) (tC (.str x)):=λ_ _ _ H _ I h=>Calls.Constant_str ⟨.str x,H,I.tok _,⟨0⟩,h⟩
nonrec def Gl (X:Cx)(x:Str):Prop:=X.env.kindOf x=u_ .globalImplicit
def kT {E:o6->o7->Prop}{oq:oj (o3×Obj)}{s:o7}{σ:St}{H:Hp}{x:Str}{u:o6}{pos:Pos}{Q:o6->o7->Prop}(I:#[I])(O:Gl X x)(hm:X.mg x=u_ u)(h:Q u s)
  (hd:(x==("__debug__":Str))=false:=by decide):V7 #[X,X] X.A (eval (.Name x pos) X.env) Q E s:=
 Rh I.ok.kind O (Calls.loadGlobal_global (by rw[I.ok.glob];exact I.mod.glob.keeps I.bk) hm h) hd
def WS {E:o6->o7->Prop}{oq:oj (o3×Obj)}{s:o7}{σ:St}{H:Hp}{x:Str}{u:o6}{pos:Pos}{Q:o6->o7->Prop}(I:#[I])(O:Gl X x)(hm:X.mg x=U_)(U:Gj x=u_ u)(h:Q u s)
  (hn:x≠"__name__":=by decide) (hd:(x==("__debug__":Str))=false:=by decide):V7 #[X,X] X.A (eval (.Name x pos) X.env) Q E s:=by
 erw[I.mod.blt,mb,h1,h2];exact Rh I.ok.kind O (Calls.loadGlobal_builtin (by rw[I.ok.glob];exact I.mod.glob.keeps I.bk) hm (by rw[I.ok.blt];exact h1.keeps I.bk) ((h2 x hn).trans U) h) hd
variable {v:V}{u:o6}
def sL {pos:Pos}(O:Gl X x)(hm:X.mg x=u_ u)(r:ik v u)(hd:(x==("__debug__":Str))=false:=by decide):PE X (.Name x pos) (tC v):=
 λ_ _ _ H _ I h=>kT I O hm ⟨v,H,I,r,h⟩ hd
def yc {x:Str}{v:V}{u:o6}{pos:Pos}(O:Gl X x)(hm:X.mg x=U_)(U:Gj x=u_ u)(r:ik v u)(hn:x≠"__name__")(hd:(x==("__debug__":Str))=V6):PE X (.Name x pos) (tC v):=
 λ_ _ _ H _ I h=>WS I O hm U ⟨v,H,I,r,h⟩ hn hd
variable {a b:Expr}{ta tb:TE}{pos:Pos}
nonrec def PC (X:Cx)(op:GL)(a b:Expr)(t:TE):Prop:=
 ∀(oq:oj (o3×Obj)) (s:o7) (σ:St) (H:Hp) (Q:VK),#[I]->t σ H Q->
  V7 #[X,X] X.A (eval a X.env) (λv s₁=>V7 #[X,X] X.A (eval b X.env) (λu s₂=>V7 #[X,X] X.A (Vj op v u) (EP X oq σ Q) X.xe s₂) X.xe s₁) X.xe s
inductive ItB (Q:(Bool->Hp->Prop))(x:V)(H1:Hp):Prop
 |mk (c:_)(_:x= .bl c)(_:Q c H1)
nonrec def tB (t:TE):TT:=λσ H Q=>t σ H λx H1=>ItB Q x H1
def AQ {O:GL}{t:TE}(h:PC X O a b t)(h1:GS O b=V6):PT X (.Compare a [O] [b] pos) (tB t):=by
 exists 2,Q,I,U;refine Fp (thn (h oq s σ H _ I U) λv s1 h1=>thn h1 λu s2 h2=>thn h2 λc s3 zq=>?_) h1;erw[zq,x,H1,Z,r1,q1];erw[q1,d,rfl,q];cases r1;exact vw [H1:Z:q]
def Qh {e:Expr}{t:TE}(h:PE X e t)(U:∀O,isTrue e X.env O=(do let v<-O;GX e.pos;gV [v] (truthy v))):PT X e (tB t):=by
 exists 2,Q,I,Z;refine FO (thn (h oq s σ H _ I Z) λv s1 zq=>?_) (U _);erw[zq,x,H1,I1,r1,q1];erw[q1,d,rfl,q];cases r1;exact vw [H1:I1:q]
variable {tA tB':TT}{rest:oj Expr}
nonrec def Ady (t u:TT):TT:=λσ H Q=>t σ H λc H1=>if c=v_ then u σ H1 Q else Q V6 H1
nonrec def tOr (t u:TT):TT:=λσ H Q=>t σ H λc H1=>if c=v_ then Q v_ H1 else u σ H1 Q
nonrec def Adt (t:TT):TT:=λσ H Q=>t σ H λc H1=>Q (!c) H1
def jP (ha:PT X a tA):PW X (.BoolOp .And [a] pos) tA:=by
 intro O oq s σ H Q I h;refine isTrue_and (thn (ha oq s σ H Q I h) λc s1 e=>?_);cases c with
 |true=>exact isTrue_and_nil e
 |false=>exact e
def jq (ha:PT X a tA):PW X (.BoolOp .Or [a] pos) tA:=by
 intro O oq s σ H Q I h;refine isTrue_or (thn (ha oq s σ H Q I h) λc s1 e=>?_);cases c with
 |false=>exact isTrue_or_nil e
 |true=>exact e
def X1 (ha:PT X a tA)(U:PW X (.BoolOp .And (b::rest) pos) tB'):PW X (.BoolOp .And (a::b::rest) pos) (Ady tA tB'):=by
 intro Z oq s σ H Q I h;refine isTrue_and (thn (ha oq s σ H _ I h) λc s1 zq=>?_);erw[zq,H1,O,q1];cases c with
 |true=>exact U Z oq s1 σ H1 Q O q1
 |false=>exact[H1:O:q1]
def Xp (ha:PT X a tA)(U:PW X (.BoolOp .Or (b::rest) pos) tB'):PW X (.BoolOp .Or (a::b::rest) pos) (tOr tA tB'):=by
 intro Z oq s σ H Q I h;refine isTrue_or (thn (ha oq s σ H _ I h) λc s1 zq=>?_);erw[zq,H1,O,q1];cases c with
 |true=>exact[H1:O:q1]
 |false=>exact U Z oq s1 σ H1 Q O q1
def Qv (ha:PT X a tA):PT X (.UnaryOp .Not a pos) (Adt tA):=by
 exists 2,Q,I,h;exact isTrue_not (ha oq s σ H (λc H1=>Q (!c) H1) I h)
inductive AbC (tb:TE)(σ:St)(Q:VK)(x:V)(H1:Hp):Prop
 |mk (c:_)(_:x= .bl c)(_:if c=v_ then tb σ H1 Q else Q (.bl V6) H1)
nonrec def Ab9 (ta tb:TE):TE:=λσ H Q=>ta σ H λx H1=>AbC tb σ Q x H1
inductive AcS (tb:TE)(σ:St)(Q:VK)(x:V)(H1:Hp):Prop
 |mk (c:_)(_:x= .bl c)(_:if c=v_ then Q (.bl v_) H1 else tb σ H1 Q)
nonrec def Ads (ta tb:TE):TE:=λσ H Q=>ta σ H λx H1=>AcS tb σ Q x H1
def xn {op}{t:TE}(h:PE X a t):PE X (.BoolOp op [a] pos) t:=λoq s σ H Q I O=>BoolOp_one (h oq s σ H Q I O)
def Xs (ha:PE X a ta)(U:PE X (.BoolOp .And (b::rest) pos) tb):PE X (.BoolOp .And (a::b::rest) pos) (Ab9 ta tb):=by
 exists 2,Q,I,h;refine BoolOp_and (thn (ha oq s σ H _ I h) λv s1 zq=>?_);erw[zq,x,H1,O,Z,q1];erw[q1,c,rfl,q1];cases Z;refine vw ?_;cases c with
 |true=>exact U oq s1 σ H1 Q O q1
 |false=>exact⟨.bl V6,H1,O,1,q1⟩
def Aav (ha:PE X a ta)(U:PE X (.BoolOp .Or (b::rest) pos) tb):PE X (.BoolOp .Or (a::b::rest) pos) (Ads ta tb):=by
 exists 2,Q,I,h;refine BoolOp_or (thn (ha oq s σ H _ I h) λv s1 zq=>?_);erw[zq,x,H1,O,Z,q1];erw[q1,c,rfl,q1];cases Z;refine vw ?_;cases c with
 |false=>exact U oq s1 σ H1 Q O q1
 |true=>exact⟨.bl v_,H1,O,1,q1⟩
nonrec def tIf (t:TT)(ta tb:TE):TE:=λσ H Q=>t σ H λc H1=>if c=v_ then ta σ H1 Q else tb σ H1 Q
def Q6 {c:Expr}(U:PT X c tA)(ha:PE X a ta)(Z:PE X b tb):PE X (.IfExp c a b pos) (tIf tA ta tb):=by
 exists 2,Q,I,h;refine wpAny_IfExp (thn (U oq s σ H _ I h) λd s1 zq=>?_);erw[zq,H1,O,q1];cases d with
 |true=>exact ha oq s1 σ H1 Q O q1
 |false=>exact Z oq s1 σ H1 Q O q1
end
nonrec def SqL (K:o0)(H:Hp)(a:o3)(xs:oj V):Prop:=
 Rd H a (.lst xs)∨
  ∃(o:Obj) (its:Array o6) (n:Nat),K.lookup a=u_ o/\o.cls= .type "list"/\o.dict=U_/\o.data= .seq its n/\its.size<=V9/\im xs its.toList
nonrec def SqT (K:o0)(H:Hp)(a:o3)(xs:oj V):Prop:=
 Rd H a (.tup xs)∨
  ∃(o:Obj) (its:Array o6) (n:Nat),K.lookup a=u_ o/\o.cls= .type "tuple"/\o.data= .seq its n/\its.size<=V9/\im xs its.toList
nonrec def AdT:o6->om V
 | .none=>u_ .non
 | .bool b=>u_ (.bl b)
 | .int i _=>u_ (.int i)
 | .str x _=>u_ (.str x)
 | .bytes b _=>u_ (.byt b)
 | .float b _=>u_ (.flt b)
 | .ref a=>u_ (.ref a)
 | .type n=>u_ (.ty n)
 |_=>U_
variable {u:o6}
def ik.abs {x:V}(r:ik x u):AdT u=u_ x:=by
 cases x with
 |non=>cases r;rfl
 |bl _=>cases r;rfl
 |int _=>erw[r,t,rfl];rfl
 |str _=>erw[r,t,rfl];rfl
 |byt _=>erw[r,t,rfl];rfl
 |flt _=>erw[r,t,rfl];rfl
 |ref _=>cases r;rfl
 |ty _=>cases r;rfl
variable {y:V}
def ik.inj {x:V}(r:ik x u)(q:ik y u):x=y:=uN (r.abs.symm.trans q.abs)
def im.inj:∀{xs ys:oj V}{us:oj o6},im xs us->im ys us->xs=ys
 |_,_,_,.nil,.nil=>rfl
 |_,_,_,.cons r t,.cons r' t'=>by rw[r.inj r',im.inj t t']
section
variable {X:Cx}{oq:oj (o3×Obj)}{σ:St}{H:Hp}{s:o7}{a:o3}{xs ys:oj V}
variable {K:o0}
def SqL.of (h:H a=u_ (.lst xs)):SqL K H a xs:= .inl (.inl h)
def SqT.of (h:H a=u_ (.tup xs)):SqT K H a xs:= .inl (.inl h)
def Inv.list (I:#[I])(h:SqL X.K H a xs):∃its:oj o6,im xs its/\PlainL s.heap a its.toArray/\↑xs<=sizeLine:=by
 rcases h with h|⟨o,its,n,O,U,hd,Z,hz,r⟩
 ·erw[h.ok I.hok,z,its,n,r,e];exact⟨its,r,⟨_,n,e,1,1,1⟩,z⟩
 ·exists its.toList,r,⟨o,n,I.kIn a o O,U,hd,by simpa using Z⟩
  have e:=↑r;simp![Vq] at e;omega
def Inv.tuple (I:#[I])(h:SqT X.K H a xs):∃its:oj o6,im xs its/\GH s.heap a its.toArray/\↑xs<=sizeLine:=by
 rcases h with h|⟨o,its,n,O,U,Z,hz,r⟩
 ·erw[h.ok I.hok,z,its,r,p];exact⟨its,r,p,z⟩
 ·exists its.toList,r,⟨o,I.kIn a o O,U,n,by simpa using Z⟩
  have e:=↑r;simp![Vq] at e;omega
def Inv.list_inj (I:#[I])(h:SqL X.K H a xs)(h':SqL X.K H a ys):xs=ys:=by
 erw[I.list h,its,r,[o,n,e,_,_,d],_];erw[I.list h',its',r',[o',Z,O,_,_,d'],_];rw[e] at O;cases O;rw[d] at d';injection d' with U _
 have:its=its':=by simpa using A8 Fq U
 subst this;exact r.inj r'
def Inv.tuple_inj (I:#[I])(h:SqT X.K H a xs)(h':SqT X.K H a ys):xs=ys:=by
 erw[I.tuple h,its,r,[o,e,_,n,d],_];erw[I.tuple h',its',r',[o',O,_,Z,d'],_];rw[e] at O;cases O;rw[d] at d';injection d' with U _
 have:its=its':=by simpa using A8 Fq U
 subst this;exact r.inj r'
end
noncomputable abbrev Cx.wish (X:Cx)(E:o6->o7->Prop):Cx:={X with xe:=E}
noncomputable abbrev Cx.nox (X:Cx):Cx:=X.wish λ_ _=>False
def Cx.Ok.wish (ok:X.Ok)(E:o6->o7->Prop):(X.wish E).Ok:=
 ⟨ok.mod,ok.kind,ok.glob,ok.blt,ok.above,ok.inj,ok.has,ok.cab,ok.hd,ok.frames,ok.stk,ok.exf,ok.bs,ok.bsz,ok.noex,ok.exfs,ok.funs,ok.frf⟩
def Cx.Ok.unwish {E:o6->o7->Prop}(ok:(X.wish E).Ok):X.Ok:=
 ⟨ok.mod,ok.kind,ok.glob,ok.blt,ok.above,ok.inj,ok.has,ok.cab,ok.hd,ok.frames,ok.stk,ok.exf,ok.bs,ok.bsz,ok.noex,ok.exfs,ok.funs,ok.frf⟩
section
variable {X:Cx}{oq:oj (o3×Obj)}{σ:St}{H:Hp}{s:o7}{E:o6->o7->Prop}
def Inv.wish (I:#[I])(E:o6->o7->Prop):Inv (X.wish E) oq σ H s:=⟨I.ok.wish E,I.os,I.bare,I.base,I.loc,I.cell,I.free,I.freeC,I.pin,I.hok,I.len,I.tk⟩
def Inv.unwish (I:Inv (X.wish E) oq σ H s):#[I]:=⟨I.ok.unwish,I.os,I.bare,I.base,I.loc,I.cell,I.free,I.freeC,I.pin,I.hok,I.len,I.tk⟩
def SP.unwish {D:mU}{f:Flow}{s':o7}(h:SP (X.wish E) oq D f s'):SP X oq D f s':=by
 cases f with
 |next=>erw[h,O,H',I,q];exact⟨O,H',I.unwish,q⟩
 |brk=>erw[h,O,H',I,q];exact⟨O,H',I.unwish,q⟩
 |cont=>erw[h,O,H',I,q];exact⟨O,H',I.unwish,q⟩
 |ret u=>erw[h,v,O,H',I,r,q];exact⟨v,O,H',I.unwish,r,q⟩
def PSs.nox {st:oj Stmt}{t:TS}(h:PSs X.nox st t):PSs X st t:=λoq s σ H D I hw=>
 vD (h oq s σ H D (I.wish _) hw) (λ_ _ q=>q.unwish) λ_ _ z=>VB z
end
section
variable {X:Cx}{st:Stmt}{rest:oj Stmt}{t u:TS}{e:Expr}{te:TE}{pos:Pos}
nonrec def SJ:TS:=λD σ H=>D.nx σ H
nonrec def nh (t u:TS):TS:=λD σ H=>t {D with nx:=u D} σ H
def qr:PSs X [] SJ:=λ_ _ σ H _ I h=>Hv ⟨σ,H,I,h⟩
def qc (h1:PS X st t)(h2:PSs X rest u):PSs X (st::rest) (nh t u):=by
 exists 2,D,I,h;refine Fm (thn (h1 oq s σ H {D with nx:=u D} I h) λf s1 q=>?_)
 cases f with
 |next=>
  erw[q,O,H',U,q];exact h2 oq s1 O H' D U q
 |ret v=>exact q
 |brk=>exact q
 |cont=>exact q
def qe (h1:PS X st t):PSs X [st] t:=by
 exists 2,D,I,h;refine Fm (thn (h1 oq s σ H D I h) λf s1 q=>?_);cases f with
 |next=>exact Hv q
 |ret v=>exact q
 |brk=>exact q
 |cont=>exact q
nonrec def SS:TS:=λD σ H=>D.bk σ H
nonrec def Ab6:TS:=λD σ H=>D.ct σ H
def Oi:PS X (.Pass pos) SJ:=λ_ _ σ H _ I h=>wpAny_Pass ⟨σ,H,I,h⟩
def IY:PS X (.Break pos) SS:=λ_ _ σ H _ I h=>wpAny_Break ⟨σ,H,I,h⟩
def sK:PS X (.Continue pos) Ab6:=λ_ _ σ H _ I h=>wpAny_Continue ⟨σ,H,I,h⟩
variable {oq:oj (o3×Obj)}{σ:St}
def Inv.quiet (I:#[I]):FG X.env=false:=by simp[FG,I.ok.kind]
nonrec def Ab4 (te:TE):TS:=λD σ H=>te σ H λ_ H1=>D.nx σ H1
def Qd (O:PE X e te)(U:hZ e U_ pos.line X.env=pure V6):PS X (.Expr e pos) (Ab4 te):=by
 exists 2,D,I,h;exact wpAny_Expr_any (thn (O oq s σ H _ I h) λv s1 ⟨x,H1,Z,r1,q1⟩=>⟨σ,H1,Z,q1⟩) I.quiet U
nonrec def Adr (te:TE):TS:=λD σ H=>te σ H D.rt
def qp (O:PE X e te):PS X (.Return (u_ e) pos) (Adr te):=by
 exists 2,D,I,h;exact wpAny_Return_some (thn (O oq s σ H _ I h) λv s1 ⟨x,H1,U,Z,q1⟩=>⟨x,σ,H1,U,Z,q1⟩)
nonrec def Ab0:TS:=λD _ H=>D.rt .non H
def Oh:PS X (.Return U_ pos) Ab0:=λ_ _ σ H _ I h=>wpAny_Return_none ⟨.non,σ,H,I,1,h⟩
nonrec def Ac2 (c:TT)(t u:TS):TS:=λD σ H=>c σ H λb H1=>if b=v_ then t D σ H1 else u D σ H1
def qI {c:Expr}{a b:oj Stmt}{tc:TT}(U:PT X c tc)(ha:PSs X a t)(Z:PSs X b u):PS X (.If c a b pos) (Ac2 tc t u):=by
 exists 2,D,I,h;refine wpAny_If (thn (U oq s σ H _ I h) λd s1 zq=>?_);erw[zq,H1,O,q1];cases d with
 |true=>exact ha oq s1 σ H1 D O q1
 |false=>exact Z oq s1 σ H1 D O q1
nonrec def SK:TS:=λ_ _ _=>False
def YZ:PS X st SK:=λ_ _ _ _ _ _ h=>h.elim
end
noncomputable abbrev TG:=V->St->Hp->(St->Hp->Prop)->Prop
noncomputable abbrev TGs:=oj V->St->Hp->(St->Hp->Prop)->Prop
nonrec def PG (X:Cx)(target:Expr)(t:TG):Prop:=
 ∀(oq:oj (o3×Obj)) (s:o7) (σ:St) (H:Hp) (v:V) (u:o6) (Q:St->Hp->Prop),#[I]->ik v u->t v σ H Q->
  V7 #[X,X] X.A (gW target X.env u) (λ_ s'=>∃σ' H',Inv X oq σ' H' s'/\Q σ' H') X.xe s
nonrec def PGs (X:Cx)(ts:oj Expr)(t:TGs):Prop:=
 ∀(oq:oj (o3×Obj)) (s:o7) (σ:St) (H:Hp) (vs:oj V) (us:oj o6) (Q:St->Hp->Prop),#[I]->im vs us->t vs σ H Q->
  V7 #[X,X] X.A (assignInOrder ((VX ts X.env).map (·.2)) us) (λ_ s'=>∃σ' H',Inv X oq σ' H' s'/\Q σ' H') X.xe s
noncomputable abbrev AcP:=V->V->V->Hp->(Hp->Prop)->Prop
nonrec def Adn (X:Cx)(t:AcP):Prop:=
 ∀(oq:oj (o3×Obj)) (s:o7) (σ:St) (H:Hp) (o i v:V) (ov iv u:o6) (Q:Hp->Prop),#[I]->ik o ov->ik i iv->ik v u->t o i v H Q->
  V7 #[X,X] X.A (tY ov iv u) (λ_ s'=>∃H',Inv X oq σ H' s'/\Q H') X.xe s
noncomputable abbrev TIp:=V->V->Hp->VK->Prop
nonrec def PIp (X:Cx)(op:GT)(t:TIp):Prop:=
 ∀(oq:oj (o3×Obj)) (s:o7) (σ:St) (H:Hp) (x y:V) (v u:o6) (Q:VK),#[I]->ik x v->ik y u->t x y H Q->
  V7 #[X,X] X.A (tQ op v u) (EP X oq σ Q) X.xe s
section
variable {X:Cx}{pos:Pos}
nonrec def YY (i:Nat):TG:=λv σ H Q=>Q (σ.set i (u_ v)) H
def qN {i:Nat}{x:Str}(O:X.N.Nodup)(hi:X.N[i]? =u_ x)(U:Loc X.env.scope x)(Z:X.fn x=v_∨X.env.scope.names.lookup x=u_ .local):PG X (.Name x pos) (YY i):=by
 exists 2,v,u,Q,I,r,h;exact rg (KQ I O hi U r (λs' I'=>⟨_,H,I',h⟩) Z)
nonrec def Adi:TGs:=λvs σ H Q=>vs= []/\Q σ H
nonrec def Pn (t:TG)(u:TGs):TGs:=λvs σ H Q=>∃v r,vs=v::r/\t v σ H λσ' H'=>u r σ' H' Q
def YH:PGs X [] Adi:=by
 exists 2,vs,us,Q,I,r,h;erw[h,e,h];subst e;cases r;exact assignInOrder_nil ⟨σ,H,I,h⟩
def Qe {e:Expr}{es:oj Expr}{t:TG}{u:TGs}(h1:PG X e t)(h2:PGs X es u)
  (O:(VX (e::es) X.env).map (·.2)=gW e X.env::(VX es X.env).map (·.2):=by rfl):PGs X (e::es) (Pn t u):=by
 exists 2,vs,us,Q,I,r,h;erw[h,v,vr,U,h];subst U;cases r with
 |cons r Z=>
  rw[O];refine assignInOrder_cons (thn (h1 oq s σ H _ _ _ I r h) λ_ s1 zq=>?_);erw[zq,σ1,H1,I1,q1];exact h2 oq s1 σ1 H1 _ _ Q I1 Z q1
nonrec def AcG (K:o0)(n:Nat)(t:TGs):TG:=λv σ H Q=>∃a xs,v= .ref a/\SqT K H a xs/\↑xs=n/\t xs σ H Q
def wC {es:oj Expr}{k:Nat}{t:TGs}{n:Nat}(Z:X.calm=v_)(h:PGs X es t)
  (hn:↑(VX es X.env)=n:=by rfl) (O:(VX es X.env).findIdx? (·.1)=none:=by rfl):PG X (.Tuple es k pos) (AcG X.K n t):=by
 exists 2,v,u,Q,I,r,U;erw[U,a,xs,e1,hq,hl,U];subst e1;cases r;erw[I.tuple hq,its,rv,ht,hz];refine assign_Tuple_tuple (I.ok.hd Z) ht (by simp[hn,<-hl,rv.length]) O λh' hx=>?_
 have I1:Inv X oq σ H {s with heap:=h'}:=I.kept (t':=s.toks) λb o e=>hx b o (uR (uK e)) e
 exact h oq _ σ H xs _ Q I1 (by simpa using rv) U
nonrec def AdR (to ti:TE)(t:AcP):TG:=λv σ H Q=>to σ H λo H1=>ti σ H1 λi H2=>t o i v H2 λH3=>Q σ H3
def Aat {o i:Expr}{to ti:TE}{t:AcP}(U:PE X o to)(hi:PE X i ti)(Z:Adn X t)
  (ha:∀v,gW (.Subscript o i pos) X.env v=(do
   let ov<-gV [v] (eval o X.env)
   let O<-gV [v,ov] (eval i X.env)
   GX pos
   gV [v,ov,O] (tY ov O v)
   release [v,ov,O] [])):PG X (.Subscript o i pos) (AdR to ti t):=by
 exists 2,v,u,Q,I,r,h;rw[ha];refine A4 (VD (thn (U oq s σ H _ I h) λov s1 zq=>?_));erw[zq,x,H1,I1,r1,q1];refine A4 (VD (thn (hi oq s1 σ H1 _ I1 q1) λO s2 zq=>?_));erw[zq,y,H2,I2,r2,q2];refine A4 (Hm (A4 (VD (thn (Z oq s2 σ H2 x y v ov O u _ I2 r1 r2 r q2) λ_ s3 zq=>?_))));erw[zq,H3,I3,q3];exact wpAny_release ⟨σ,H3,I3,q3⟩
nonrec def Ab8 (te:TE)(g:TG):TS:=λD σ H=>te σ H λx H1=>g x σ H1 D.nx
def kG {tg e:Expr}{te:TE}{g:TG}(O:PE X e te)(U:PG X tg g)(Z:swapsWithSole [tg] e pos.line X.env=pure V6)(hw:swappedStores [tg] e X.env=pure U_)
  (h1:(VX [tg] X.env).map (·.2)= [gW tg X.env]):PS X (.Assign [tg] e pos) (Ab8 te g):=by
 exists 2,D,I,h;refine wpAny_Assign_stores (thn (O oq s σ H _ I h) λv s1 zq=>?_) Z hw;erw[zq,x,H1,I1,r1,q1];rw[h1];exact thn (U oq s1 σ H1 x v _ I1 r1 q1) λ_ s2 q=>q
def qG {i:Nat}{x:Str}{e:Expr}{te:TE}{pos':Pos}(O:X.N.Nodup)(hi:X.N[i]? =u_ x)(U:Loc X.env.scope x)(Z:PE X e te)(hs:hZ e (u_ (.Name x pos')) pos.line X.env=pure V6)(hf:X.fn x=v_∨X.env.scope.names.lookup x=u_ .local):
  PS X (.Assign [.Name x pos'] e pos) (Ab8 te (YY i)):=by
 exists 2,D,I,h;refine wpAny_Assign_Name (thn (Z oq s σ H _ I h) λv s1 zq=>?_) hs;erw[zq,y,H1,I1,r1,q1];exact KQ I1 O hi U r1 (λs2 I2=>⟨_,H1,I2,q1⟩) hf
inductive Adx (i:Nat)(te:TE)(ti:TIp)(D:mU)(σ:St)(H:Hp):Prop
 |mk (x:_)(_:σ[i]? =u_ (u_ x))(_:te σ H λy H1=>ti x y H1 λz H2=>D.nx (σ.set i (u_ z)) H2)
def Dj {i:Nat}{x:Str}{e:Expr}{te:TE}{Z:GT}{ti:TIp}{pos':Pos}(hN:X.N.Nodup)(hi:X.N[i]? =u_ x)(hx:Loc X.env.scope x)(he:PE X e te)(ho:PIp X Z ti)(hf:X.fn x=v_∨X.env.scope.names.lookup x=u_ .local):
  PS X (.AugAssign (.Name x pos') Z e pos) (Adx i te ti):=by
 exists 2,D,I,h;erw[h,v,e1,h];erw[I.loc,m,hn,hl];have aa:Vis X.env.scope x:=by rcases hx with k|k;exact .inl k;exact .inr (.inl k)
 erw[hl i x v hi e1 aa,u,r,l];refine wpAny_AugAssign_Name ?_;have go:V7 #[X,X] X.A (eval e X.env) (λw s₂=>V7 #[X,X] X.A (tQ Z u w) (λr s₃=>V7 #[X,X] X.A (HJ X.env x r) (λ_=>SP X oq D .next) X.xe s₃) X.xe s₂) X.xe s:=by
  refine thn (he oq s σ H _ I h) λw s1 zq=>?_;erw[zq,y,H1,I1,r1,q1];refine thn (ho oq s1 σ H1 v y u w _ I1 r r1 q1) λz s2 zq=>?_;erw[zq,zv,H2,I2,r2,q2];exact KQ I2 hN hi hx r2 (λs3 I3=>⟨_,H2,I3,q2⟩) hf
 rcases l with⟨O,hm⟩|⟨O,c,hc,U⟩
 ·exact TR I.ok.kind O hn hm go
 ·rcases O with O|O
  ·exact FU I.ok.kind O hc U go
  ·rcases hx with k|k
   ·have:X.env.scope.names.lookup x=u_ .free:=O;rw[k] at this;cases this
   ·have:X.env.scope.names.lookup x=u_ .free:=O;rw[k] at this;cases this
nonrec def ipI (f:Int->Int->Int):TIp:=λx y H Q=>∃i j,x= .int i/\y= .int j/\Q (.int (f i j)) H
def En:PIp X .Add (ipI λi j=>i+j):=by
 exists 2,x,y,v,u,Q,I,O,U,h;erw[h,i,j,Z,e2,q];subst Z;subst e2;erw[O,t,rfl];erw[U,t',rfl];exact iadd_int ⟨.int _,H,I.tok _,⟨0⟩,q⟩
nonrec def Mb (c:TT)(tb:TS):TS:=λD σ H=>∃W:Nat->St->Hp->Prop,(∃m,W m σ H)/\∀m σ H,W m σ H->
 c σ H λb H1=>if b=v_ then∃N:St->Hp->Prop,(∀σ' H',N σ' H'->∃m',m'<m/\W m' σ' H')/\tb {D with nx:=N,ct:=N,bk:=D.nx} σ H1 else D.nx σ H1
def JZ {c:Expr}{O:oj Stmt}{tc:TT}{tb:TS}(hp:PassesOwn #[X,X] X.A X.env X.xe)(hc:PT X c tc)(hb:PSs X O tb):PS X (.While c O [] pos) (Mb tc tb):=by
 exists 2,D,I,h;erw[h,W,[m0,w0],U];refine wpAny_While (codeAny_whileLoop (λn s'=>∃σ' H',Inv X oq σ' H' s'/\W n σ' H') ?_ m0 ⟨σ,H,I,w0⟩);rintro n s1 ⟨σ1,H1,I1,w1⟩;refine U2 hp (thn (hc oq s1 σ1 H1 _ I1 (U n σ1 H1 w1)) λb s2 zq=>?_);erw[zq,H2,I2,q2];cases b with
 |true=>
  erw[q2,N,hN,q2];rw[A3 rfl];refine U2 hp (thn (hb oq s2 σ1 H2 _ I2 q2) λf s3 q3=>?_);cases f with
  |next=>
   erw[q3,Z,H3,I3,n3];erw[hN Z H3 n3,m',hm,w3];exact⟨m',hm,Z,H3,I3,w3⟩
  |cont=>
   erw[q3,Z,H3,I3,n3];erw[hN Z H3 n3,m',hm,w3];exact⟨m',hm,Z,H3,I3,w3⟩
  |brk=>exact q3
  |ret v=>exact q3
 |false=>
  rw[A2 uc];exact Hv ⟨σ1,H2,I2,q2⟩
end
structure It where
 go:Nat->Hp->Prop
 yld:Nat->Hp->V->Hp->Prop
 stop:Nat->Hp->Prop
nonrec def Av (X:Cx)(oq:oj (o3×Obj))(H:Hp)(b:o3):Prop:=
 H b=U_/\b≠X.env.locals/\b∉X.fs/\(b∈X.ex∨X.s₀.heap.objs.size<=b)/\(∀x c,X.env.cells.lookup x=u_ c->c≠b)/\∀p∈X.pn++oq,p.1≠b
variable {oq:oj (o3×Obj)}{σ:St}{H':Hp}
def Inv.fpOk (I:#[I])(O:#[0,s]<=b)(hn:H' b=U_):Av X oq H' b:=by
 exists hn,U6 (Vn I.lt O),I.nofs O,.inr (uT I.sz O),λx c e z=>?_,λp U z=>?_
 ·erw[I.cell x c e,v,q];exact A7 (Vn q.lt (by rwa[z])) (vI _)
 ·exact A7 (Vn (uK (I.pin p U).1) (by rwa[z])) (vI _)
structure PL (P:o9)(w:og)(K:o0)(tg:Expr)(J:It)(fp:oj o3)(it:o3)(tn:Nat->o8->Prop):Prop where
 mem:it∈fp
 obj:∀i h,tn i h->∀b∈fp,∃o,h.get? b=u_ o/\∀v,o.data≠ .cell v
 keep:∀i h h',tn i h->(∀b∈fp,∀o,h.get? b=u_ o->h'.get? b=u_ o)->tn i h'
 item:∀(X:Cx),X.prog=P->X.w=w->X.K=K->X.calm=v_->∀(i:Nat) (oq:oj (o3×Obj)) (s:o7) (σ:St) (H:Hp) (E:o6->o7->Prop),#[I]->(∀b∈fp,Av X oq H b)->tn i s.heap->J.go i H->
  V7 (Vk P w) X.A (VM (.ref it)) (λr s1=>∃u,r=u_ u/\
   V7 (Vk P w) X.A (HQ tg (.ref it) u) (λ_ s2=>∃x H',Inv X oq σ H' s2/\ik x u/\J.yld i H x H'/\tn (i+1) s2.heap/\∀b∈fp,H' b=U_) E s1) E s
 done:∀(X:Cx),X.prog=P->X.w=w->X.K=K->X.calm=v_->∀(i:Nat) (oq:oj (o3×Obj)) (s:o7) (σ:St) (H:Hp) (E:o6->o7->Prop),#[I]->(∀b∈fp,Av X oq H b)->tn i s.heap->J.stop i H->
  V7 (Vk P w) X.A (VM (.ref it)) (λr s1=>r=U_/\Inv X oq σ H s1) E s
 self:∀(A:oh) (i:Nat) (s:o7) (Q:o6->o7->Prop) (E:o6->o7->Prop),tn i s.heap->Q (.ref it) s->V7 (Vk P w) A (GV (.ref it)) Q E s
noncomputable abbrev TI:=St->Hp->(It->Hp->Prop)->Prop
nonrec def PIE (X:Cx)(oq:oj (o3×Obj))(σ:St)(tg:Expr)(R:It->Hp->Prop)(itv:o6)(s2:o7):Prop:=
 ∃(it:o3) (fp:oj o3) (tn:Nat->o8->Prop) (J:It) (H':Hp),itv= .ref it/\Inv X oq σ H' s2/\PL X.prog X.w X.K tg J fp it tn/\tn 0 s2.heap/\(∀b∈fp,Av X oq H' b)/\R J H'
nonrec def PI (X:Cx)(tg iter:Expr)(wi:TI):Prop:=
 ∀(oq:oj (o3×Obj)) (s:o7) (σ:St) (H:Hp) (R:It->Hp->Prop),#[I]->wi σ H R->
  V7 #[X,X] X.A (eval iter X.env) (λv s1=>V7 #[X,X] X.A (GV v) (PIE X oq σ tg R) X.xe s1) X.xe s
def Ex {M:Gz}{A:oh}{E:o6->o7->Prop}{s:o7}{tg:Expr}{it:o3}{u:o6}{o:Obj}{n:String}{vs:Array o6}{Q:Unit->o7->Prop}(U:s.heap.get? it=u_ o)(Z:o.cls= .type n)(hd:o.data= .fields vs)
  (hn: ["enumerate","zip","dict_itemiterator","dict_reverseitemiterator","odict_iterator","itertools.zip_longest","itertools.pairwise"].contains n=V6) (O:Q VH s):V7 M A (HQ tg (.ref it) u) Q E s:=by
 unfold HQ;cases tg<;>first
  |exact Vb O
  |(cases u<;>first
    |exact Vb O
    |(refine A4 (HH U ?_)
      rw[Z,hd];show V7 M A (if(["enumerate","zip","dict_itemiterator","dict_reverseitemiterator","odict_iterator","itertools.zip_longest","itertools.pairwise"].contains n&&vs[0]? ==u_ (V_ _))=v_ then _ else _) Q E s
      rw[A2 (by intro h;rw[hn,RH] at h;cases h)]
      exact Vb O))
nonrec def Itl (K:o0)(a:o3):It:=
 ⟨λi H=>∃xs x,SqL K H a xs/\xs[i]? =u_ x,λi H x H'=>H'=H/\∀xs,SqL K H a xs->xs[i]? =u_ x,λi H=>∃xs,SqL K H a xs/\↑xs<=i⟩
nonrec def Itt (K:o0)(a:o3):It:=
 ⟨λi H=>∃xs x,SqT K H a xs/\xs[i]? =u_ x,λi H x H'=>H'=H/\∀xs,SqT K H a xs->xs[i]? =u_ x,λi H=>∃xs,SqT K H a xs/\↑xs<=i⟩
nonrec def Itr (lo:Int)(n:Nat):It:=[λi _=>i<n:λi H x H'=>H'=H/\x= .int (lo+i):λi _=>n<=i]
variable {K:o0}{tg:Expr}
def Cw {P:o9}(a it:o3):PL P w K tg (Itl K a) [it] it (λi h=>h.IsListIter it a i) where
 mem:=by simp
 obj:=λi h st b O=>by
  have e:b=it:=by simpa using O
  subst e;erw[st,o,e,c,d];exact⟨o,e,λv z=>by rw[d] at z;cases z⟩
 keep:=λi h h' st k=>st.at λo e=>k it (by simp) o e
 item:=by
  intro X hP hw hK hc i oq s σ H E I Z st hg;subst hP hw hK;erw[hg,xs,x,hq,hx];erw[I.list hq,its,rv,p,hz];erw[rv.get hx,u,hu,ru];obtain⟨f0,f1,f2,f3,f4,f5⟩:=Z it (by simp)
  refine T_ st p.isList (x:=u) (by simpa using hu) λh' U sb=>?_
  have I1:Inv X oq σ H {s with heap:=h'}:=I.turned (t':=s.toks) (λb o O e=>(sb.2 b O).trans e) f0 f1 f3 f4 f5
  erw[id U,o,e,c,d];exact⟨u,1,Ex (s:={s with heap:=h'}) e c d () ⟨x,H,I1,ru,⟨1,λys hy=>by rwa[I.list_inj hy hq]⟩,U,λb O=>(Z b O).1⟩⟩
 done:=by
  intro X hP hw hK hc i oq s σ H E I Z st hg;subst hP hw hK;erw[hg,xs,hq,hx];erw[I.list hq,its,rv,p,hz];obtain⟨f0,f1,f2,f3,f4,f5⟩:=Z it (by simp)
  have hl:=↑rv;exact TY (I.ok.hd hc) st p.isList (by simp;omega) λh' eb=>[1:I.turned (t':=s.toks) (λb o O e=>eb b o O e) f0 f1 f3 f4 f5]
 self:=λ_ _ _ _ _ st h=>wpAny_pyIter_listiter st h
def WU {P:o9}(a it:o3):PL P w K tg (Itt K a) [it] it (λi h=>h.IsTupleIter it a i) where
 mem:=by simp
 obj:=λi h st b O=>by
  have e:b=it:=by simpa using O
  subst e;erw[st,o,e,c,d];exact⟨o,e,λv z=>by rw[d] at z;cases z⟩
 keep:=λi h h' st k=>st.at λo e=>k it (by simp) o e
 item:=by
  intro X hP hw hK hc i oq s σ H E I Z st hg;subst hP hw hK;erw[hg,xs,x,hq,hx];erw[I.tuple hq,its,rv,p,hz];erw[rv.get hx,u,hu,ru];obtain⟨f0,f1,f2,f3,f4,f5⟩:=Z it (by simp)
  refine wpAny_pyNext_tuple_item st (show s.heap.IsTuple a its.toArray from p) (x:=u) (by simpa using hu) λh' U sb=>?_
  have I1:Inv X oq σ H {s with heap:=h'}:=I.turned (t':=s.toks) (λb o O e=>(sb.2 b O).trans e) f0 f1 f3 f4 f5
  erw[id U,o,e,c,d];exact⟨u,1,Ex (s:={s with heap:=h'}) e c d () ⟨x,H,I1,ru,⟨1,λys hy=>by rwa[I.tuple_inj hy hq]⟩,U,λb O=>(Z b O).1⟩⟩
 done:=by
  intro X hP hw hK hc i oq s σ H E I Z st hg;subst hP hw hK;erw[hg,xs,hq,hx];erw[I.tuple hq,its,rv,p,hz];obtain⟨f0,f1,f2,f3,f4,f5⟩:=Z it (by simp)
  have hl:=↑rv;exact wpAny_pyNext_tuple_end (I.ok.hd hc) st (show s.heap.IsTuple a its.toArray from p) (by simp;omega) λh' eb=>[1:I.turned (t':=s.toks) (λb o O e=>eb b o O e) f0 f1 f3 f4 f5]
 self:=λ_ _ _ _ _ st h=>wpAny_pyIter_tupleiter st h
def BO {P:o9}(it:o3)(lo:Int)(n:Nat):PL P w K tg (Itr lo n) [it] it (λi h=>FC h it (lo+(i:Nat)*1) ((n:Int)-(i:Nat)) 1) where
 mem:=by simp
 obj:=λi h st b O=>by
  have e:b=it:=by simpa using O
  subst e;exact⟨_,st,λv z=>by
   have z':Data.fields _=Data.cell v:=z;cases z'⟩
 keep:=λi h h' st k=>k it (by simp) _ st
 item:=by
  intro X hP hw hK hc i oq s σ H E I Z st hg;subst hP hw hK;obtain⟨f0,f1,f2,f3,f4,f5⟩:=Z it (by simp)
  have W:=Walks.range (prog:=X.prog) (w:=X.w) (I.ok.hd hc) it lo 1 n;refine uZ (n:=1) I.tk (W.item i s _ _ hg st λv h' tk hv U kk=>?_);intro htk;erw[hv,t,rfl];have I1:Inv X oq σ H {s with heap:=h',toks:=tk}:=I.turned (λb o O e=>kk b o (by simpa using O) e) f0 f1 f3 f4 f5
  exists 0,Ex (s:={s with heap:=h',toks:=tk}) (n:="range_iterator") U rfl rfl () ⟨.int (lo+i),H,I1,[t:?_],[1:1],U,λb O=>(Z b O).1⟩
  rw[Int.mul_one]
 done:=by
  intro X hP hw hK hc i oq s σ H E I Z st hg;subst hP hw hK;obtain⟨f0,f1,f2,f3,f4,f5⟩:=Z it (by simp)
  exact wpAny_pyNext_range_end (I.ok.hd hc) st (by have:n<=i:=hg;omega) λh' eb=>[1:I.turned (t':=s.toks) (λb o O e=>eb b o O e) f0 f1 f3 f4 f5]
 self:=λ_ _ _ _ _ st h=>wpAny_pyIter_rangeiter st h
section
variable {X:Cx}{tg:Expr}
inductive AbH (K:PySem.W.Frag)(R:(It->Hp->Prop))(x:V)(H1:Hp):Prop
 |mk (a:_)(_:x= .ref a)(_:(∃xs,SqL K H1 a xs))(_:R (Itl K a) H1)
nonrec def AcC (K:o0)(tl:TE):TI:=λσ H R=>tl σ H λx H1=>AbH K R x H1
inductive AcW (K:PySem.W.Frag)(R:(It->Hp->Prop))(x:V)(H1:Hp):Prop
 |mk (a:_)(_:x= .ref a)(_:(∃xs,SqT K H1 a xs))(_:R (Itt K a) H1)
nonrec def AdP (K:o0)(tl:TE):TI:=λσ H R=>tl σ H λx H1=>AcW K R x H1
def Kt {l:Expr}{tl:TE}(U:PE X l tl):PI X tg l (AcC X.K tl):=by
 exists 2,R,I,h;refine thn (U oq s σ H _ I h) λv s1 zq=>?_;erw[zq,x,H1,O,Z,q1];erw[q1,a,e,[xs,hq],q];subst e;cases Z;erw[O.list hq,its,rv,p,hz];refine US p.isList ?_;exists #[0,s1],[#[0,s1]],_,_,H1,1,O.kept (t':=s1.toks) λb o e=>uh _ e,Cw a _,⟨_,uJ _ rfl,1,1⟩,λb hb=>?_,q;have e:b=#[0,s1]:=by simpa using hb
 subst e;exact O.fpOk (uq _) (O.hok.fresh (uq _))
def AU {l:Expr}{tl:TE}(U:PE X l tl):PI X tg l (AdP X.K tl):=by
 exists 2,R,I,h;refine thn (U oq s σ H _ I h) λv s1 zq=>?_;erw[zq,x,H1,O,Z,q1];erw[q1,a,e,[xs,hq],q];subst e;cases Z;erw[O.tuple hq,its,rv,p,hz];refine UJ (show s1.heap.IsTuple a its.toArray from p) ?_
 exists #[0,s1],[#[0,s1]],_,_,H1,1,O.kept (t':=s1.toks) λb o e=>uh _ e,WU a _,⟨_,uJ _ rfl,1,1⟩,λb hb=>?_,q;have e:b=#[0,s1]:=by simpa using hb
 subst e;exact O.fpOk (uq _) (O.hok.fresh (uq _))
def AM {oq:oj (o3×Obj)}{σ:St}{H:Hp}{s:o7}{R:It->Hp->Prop}{E:o6->o7->Prop}{lo hi:Int}{t u v:Tok}{tk:Nat}(I:#[I])(h1: -(2^62)<=lo)(h2:lo<2^62)(h3: -(2^62)<=hi)(h4:hi<2^62)
  (q:R (Itr lo (hi-lo).toNat) H) (htk:0<tk:=by ac_rfl):V7 #[X,X] X.A (GV (.ref #[0,s])) (PIE X oq σ tg R) E {s with heap:=s.heap.push {cls:= .type "range",data:= .fields #[.int lo t,.int hi u,.int 1 v]},toks:=tk}:=by
 refine wpAny_pyIter_range (IsRange.new ..) (small_one h1 h2 h3 h4) ?_;have O:Inv X oq σ H {s with heap:=s.heap.push {cls:= .type "range",data:= .fields #[.int lo t,.int hi u,.int 1 v]},toks:=tk}:=I.kept λb o e=>uh _ e
 refine⟨(s.heap.push {cls:= .type "range",data:= .fields #[.int lo t,.int hi u,.int 1 v]}).objs.size,[(s.heap.push {cls:= .type "range",data:= .fields #[.int lo t,.int hi u,.int 1 v]}).objs.size],_,_,H,1,
  O.kept (t':=tk) λb o e=>uh _ e,BO _ lo (hi-lo).toNat,?_,λb U=>?_,q⟩
 ·have Z:lo+((0:Nat):Int)*1=lo:=by simp
  have e2:(((hi-lo).toNat:Nat):Int)-((0:Nat):Int)=RT lo hi 1:=by rw[rangeSize_one];split<;>omega
  show FC _ _ (lo+((0:Nat):Int)*1) ((((hi-lo).toNat:Nat):Int)-((0:Nat):Int)) 1;rw[Z,e2];exact uJ _ rfl
 ·have e:b=(s.heap.push {cls:= .type "range",data:= .fields #[.int lo t,.int hi u,.int 1 v]}).objs.size:=by simpa using U
  subst e;exact O.fpOk (uq _) (O.hok.fresh (uq _))
inductive AbG (R:(It->Hp->Prop))(vs:List V)(H1:Hp):Prop
 |mk (j:Int)(_:vs= [.int j])(_: -(2^62)<=j)(_:j<2^62)(_:R (Itr 0 j.toNat) H1)
nonrec def AcB (ta:TA):TI:=λσ H R=>ta σ H λvs H1=>AbG R vs H1
inductive AbF (R:(It->Hp->Prop))(vs:List V)(H1:Hp):Prop
 |mk (i j:Int)(_:vs= [.int i,.int j])(_:(-(2^62)<=i/\i<2^62/\ -(2^62)<=j/\j<2^62))(_:R (Itr i (j-i).toNat) H1)
nonrec def AcA (ta:TA):TI:=λσ H R=>ta σ H λvs H1=>AbF R vs H1
def YW {a:Expr}{ta:TA}{p pos:Pos}(O:Gl X "range")(hm:X.mg "range"=U_)(ha:PA X [a] ta)(U:Vc [a] X.env= [(V6,eval a X.env)]):PI X tg (.Call (.Name "range" p) [a] [] pos) (AcB ta):=by
 exists 2,R,I,h;refine Call_ (WS I O hm boot_range (vR (thn (ha pos oq s σ H _ I h) λus s1 zq=>?_) U rfl));erw[zq,vs,H1,Z,r1,q1];erw[q1,j,e,q1,q2,q];subst e;cases r1 with
 |cons r rr=>
  cases rr;erw[r,t,rfl];exact call_range_1 (AM Z () () q1 q2 (by simpa using q))
def nY {a b:Expr}{ta:TA}{p pos:Pos}(Z:Gl X "range")(hm:X.mg "range"=U_)(ha:PA X [a,b] ta)(hs:Vc [a,b] X.env= [(V6,eval a X.env),(V6,eval b X.env)])(O:Vc [b] X.env= [(V6,eval b X.env)]):
  PI X tg (.Call (.Name "range" p) [a,b] [] pos) (AcA ta):=by
 exists 2,R,I,h;refine Call_ (WS I Z hm boot_range (vR (thn (ha pos oq s σ H _ I h) λus s1 zq=>?_) (by rw[hs,O]) (by rw[O];rfl)));erw[zq,vs,H1,I1,r1,q1]
 erw[q1,i,j,e,[q1,q2,q3,q4],q];subst e;cases r1 with
 |cons r U=>
  cases U with
  |cons r' U=>
   cases U;erw[r,t,rfl];erw[r',t',rfl];exact call_range_2 (AM I1 q1 q2 q3 q4 q)
nonrec def Ac3 (wi:TI)(g:TG)(tb:TS):TS:=λD σ H=>wi σ H λJ H1=>∃W:Nat->Nat->St->Hp->Prop,(∃m,W 0 m σ H1)/\∀i m σ H,W i m σ H->
 (J.stop i H/\D.nx σ H)∨(J.go i H/\∃N:St->Hp->Prop,(∀σ' H',N σ' H'->∃m',m'<m/\W (i+1) m' σ' H')/\∀x H',J.yld i H x H'->g x σ H' λσ2 H2=>tb {D with nx:=N,ct:=N,bk:=D.nx} σ2 H2)
nonrec def nX (fp:oj o3)(h:o8):oj (o3×Obj):=fp.filterMap λb=>(h.get? b).map λo=>(b,o)
variable {fp:oj o3}
def J1 (O:b∈fp)(e:h.get? b=u_ o):(b,o)∈nX fp h:=List.mem_filterMap.mpr ⟨b,O,by rw[e];rfl⟩
def DS {p:o3×Obj}(O:p∈nX fp h):p.1∈fp/\h.get? p.1=u_ p.2:=by
 erw[List.mem_filterMap.mp O,b,U,e];cases q:h.get? b with
 |none=>rw[q] at e;cases e
 |some o=>
  rw[q] at e;have Z:(b,o)=p:=uN e;subst Z;exact[U:q]
def Inv.pinned (I:#[I])(Z:∀b∈fp,Av X oq H b)(ho:∀b∈fp,∃o,s.heap.get? b=u_ o/\∀v,o.data≠ .cell v):Inv X (oq++nX fp s.heap) σ H s:=
 I.pins_of λp hp=>(Ab.mp hp).elim (λz=>I.pin p (uQ _ z)) λz=>by
  erw[DS z,O,e];erw[Z p.1 O,f0,f1,f2,_];erw[ho p.1 O,o,U,d];rw[e] at U;cases U;exact⟨e,f0,f1,f2,d⟩
def Inv.unpinned {pl:oj (o3×Obj)}(I:Inv X (oq++pl) σ H s):#[I]:=I.pins_of λp O=>I.pin p (uQ _ (vq _ O))
def Je {O:Expr}{ac:oj Stmt}{wi:TI}{g:TG}{tb:TS}{pos:Pos}(hp:PassesOwn #[X,X] X.A X.env X.xe)(hc:X.calm=v_)(hi:PI X tg O wi)(hg:PG X tg g)(U:PSs X ac tb)
  (hs:∀x,To O X.env x=pure x):PS X (.For tg O ac [] pos) (Ac3 wi g tb):=by
 exists 2,D,I,h;refine wpAny_For (thn (hi oq s σ H _ I h) λv s1 h1=>thn h1 λam s2 h2=>?_) hs;erw[h2,it,fp,tn,J,H2,e,I2,T,ah,f2,W,[m0,w0],ae];subst e;have Z:∀{H':Hp},(∀b∈fp,H' b=U_)->∀b∈fp,Av X oq H' b:=λhn b U=>[hn b U:(f2 b U).2];refine codeAny_forLoop_any (λn s'=>∃i σ' H',Inv X oq σ' H' s'/\tn i s'.heap/\(∀b∈fp,H' b=U_)/\W i n σ' H') ?_ m0 ⟨(0),σ,H2,I2,ah,λb U=>(f2 b U).1,w0⟩;rintro n s3 ⟨i,σ3,H3,I3,af,ag,w3⟩;rcases ae i n σ3 H3 w3 with⟨stop,qn⟩|⟨go,N,hN,step⟩
 ·refine U2 hp (thn (T.done X rfl rfl rfl hc i oq s3 σ3 H3 X.xe I3 (Z ag) af stop) λr s4 zq=>?_);erw[zq,hr,I4];subst hr;exact Hv ⟨σ3,H3,I4,qn⟩
 ·refine U2 hp (thn (T.item X rfl rfl rfl hc i oq s3 σ3 H3 X.xe I3 (Z ag) af go) λr s4 zq=>?_);erw[zq,u,hr,h4];subst hr;refine U2 hp (thn h4 λ_ s5 zq=>?_);erw[zq,x,H5,I5,r5,y5,ad,ak];have al:=I5.pinned (Z ak) (T.obj _ _ ad);refine U2 hp (thn (hg _ s5 σ3 H5 x u _ al r5 (step x H5 y5)) λ_ s6 zq=>?_);erw[zq,σ6,H6,I6,q6];refine U2 hp (thn (U _ s6 σ6 H6 _ I6 q6) λf s7 q7=>?_);have aa:∀{σ7:St}{H7:Hp},Inv X (oq++nX fp s5.heap) σ7 H7 s7->N σ7 H7->∃m,m<n/\∃i σ' H',Inv X oq σ' H' s7/\tn i s7.heap/\(∀b∈fp,H' b=U_)/\W i m σ' H':=λ{σ7 H7} I7 n7=>by
   erw[hN σ7 H7 n7,m',hm,w7];exists m',hm,i+1,σ7,H7,I7.unpinned,T.keep _ _ _ ad λb U o e=>(I7.pin (b,o) (uQ _ (uQ _ (J1 U e)))).1,λb U=>?_,w7;erw[T.obj _ _ ad b U,o,e,d];exact(I7.pin (b,o) (uQ _ (uQ _ (J1 U e)))).2.1
  cases f with
  |next=>erw[q7,σ7,H7,I7,n7];exact aa I7 n7
  |cont=>erw[q7,σ7,H7,I7,n7];exact aa I7 n7
  |brk=>erw[q7,σ7,H7,I7,q7];exact⟨σ7,H7,I7.unpinned,q7⟩
  |ret v=>erw[q7,x7,σ7,H7,I7,r7,q7];exact⟨x7,σ7,H7,I7.unpinned,r7,q7⟩
end
def Bx {K:o0}{a:o3}{xs:oj V}{g:TG}{tb:TS}{D:mU}{σ:St}{H:Hp}(O:Nat->St->Hp->Prop)(h0:O 0 σ H)(hl:∀i σ H,i<=↑xs->O i σ H->SqL K H a xs)
  (hs:∀i x σ H,xs[i]? =u_ x->O i σ H->g x σ H λZ H2=>tb {D with nx:=O (i+1),ct:=O (i+1),bk:=D.nx} Z H2) (hd:∀σ H,O ↑xs σ H->D.nx σ H):
  ∃W:Nat->Nat->St->Hp->Prop,(∃m,W 0 m σ H)/\∀i m σ H,W i m σ H->
   ((Itl K a).stop i H/\D.nx σ H)∨((Itl K a).go i H/\∃N:St->Hp->Prop,(∀σ' H',N σ' H'->∃m',m'<m/\W (i+1) m' σ' H')/\∀x H',(Itl K a).yld i H x H'->g x σ H' λZ H2=>tb {D with nx:=N,ct:=N,bk:=D.nx} Z H2):=by
 exists λi m σ H=>m=↑xs-i/\i<=↑xs/\O i σ H,⟨↑xs,by simp,uP _,h0⟩
 rintro i m σ H ⟨rfl,hi,p⟩;have q:=hl i σ H hi p;by_cases U:i<↑xs
 ·refine .inr ⟨⟨xs,xs[i],q,by simp[U]⟩,O (i+1),λσ' H' p'=>⟨↑xs-(i+1),(),1,U,p'⟩,λx H' y=>?_⟩
  erw[y,e,y];subst e;exact hs i x σ _ (y xs q) p
 ·have e:i=↑xs:=by omega
  subst e;exact .inl [[xs:q:uq _]:hd σ H p]
def KA {K:o0}{a:o3}{xs:oj V}{g:TG}{tb:TS}{D:mU}{σ:St}{H:Hp}(O:Nat->St->Hp->Prop)(h0:O 0 σ H)(hl:∀i σ H,i<=↑xs->O i σ H->SqT K H a xs)
  (hs:∀i x σ H,xs[i]? =u_ x->O i σ H->g x σ H λZ H2=>tb {D with nx:=O (i+1),ct:=O (i+1),bk:=D.nx} Z H2) (hd:∀σ H,O ↑xs σ H->D.nx σ H):
  ∃W:Nat->Nat->St->Hp->Prop,(∃m,W 0 m σ H)/\∀i m σ H,W i m σ H->
   ((Itt K a).stop i H/\D.nx σ H)∨((Itt K a).go i H/\∃N:St->Hp->Prop,(∀σ' H',N σ' H'->∃m',m'<m/\W (i+1) m' σ' H')/\∀x H',(Itt K a).yld i H x H'->g x σ H' λZ H2=>tb {D with nx:=N,ct:=N,bk:=D.nx} Z H2):=by
 exists λi m σ H=>m=↑xs-i/\i<=↑xs/\O i σ H,⟨↑xs,by simp,uP _,h0⟩
 rintro i m σ H ⟨rfl,hi,p⟩;have q:=hl i σ H hi p;by_cases U:i<↑xs
 ·refine .inr ⟨⟨xs,xs[i],q,by simp[U]⟩,O (i+1),λσ' H' p'=>⟨↑xs-(i+1),(),1,U,p'⟩,λx H' y=>?_⟩
  erw[y,e,y];subst e;exact hs i x σ _ (y xs q) p
 ·have e:i=↑xs:=by omega
  subst e;exact .inl [[xs:q:uq _]:hd σ H p]
def XR {lo:Int}{n:Nat}{g:TG}{tb:TS}{D:mU}{σ:St}{H:Hp}(O:Nat->St->Hp->Prop)(h0:O 0 σ H)
  (hs:∀i σ H,i<n->O i σ H->g (.int (lo+i)) σ H λZ H2=>tb {D with nx:=O (i+1),ct:=O (i+1),bk:=D.nx} Z H2) (hd:∀σ H,O n σ H->D.nx σ H):
  ∃W:Nat->Nat->St->Hp->Prop,(∃m,W 0 m σ H)/\∀i m σ H,W i m σ H->
   ((Itr lo n).stop i H/\D.nx σ H)∨((Itr lo n).go i H/\∃N:St->Hp->Prop,(∀σ' H',N σ' H'->∃m',m'<m/\W (i+1) m' σ' H')/\∀x H',(Itr lo n).yld i H x H'->g x σ H' λZ H2=>tb {D with nx:=N,ct:=N,bk:=D.nx} Z H2):=by
 exists λi m σ H=>m=n-i/\i<=n/\O i σ H,⟨n,by simp,uP _,h0⟩
 rintro i m σ H ⟨rfl,hi,p⟩;by_cases U:i<n
 ·refine .inr ⟨U,O (i+1),λσ' H' p'=>⟨n-(i+1),(),1,U,p'⟩,λx H' y=>?_⟩
  erw[y,e,y];subst e y;exact hs i σ _ U p
 ·have e:i=n:=by omega
  subst e;exact .inl [uq _:hd σ H p]
noncomputable abbrev R2:=V->V->Hp->VK->Prop
nonrec def OpR (X:Cx)(f:o6->o6->Sem o6)(r:R2):Prop:=
 ∀(oq:oj (o3×Obj)) (s:o7) (σ:St) (H:Hp) (x y:V) (v u:o6) (Q:VK),#[I]->ik x v->ik y u->r x y H Q->
  V7 #[X,X] X.A (f v u) (EP X oq σ Q) X.xe s
nonrec def UnR (X:Cx)(f:o6->Sem o6)(r:V->Hp->VK->Prop):Prop:=
 ∀(oq:oj (o3×Obj)) (s:o7) (σ:St) (H:Hp) (x:V) (v:o6) (Q:VK),#[I]->ik x v->r x H Q->
  V7 #[X,X] X.A (f v) (EP X oq σ Q) X.xe s
nonrec def Yt (X:Cx)(f:o6)(r:oj V->Hp->VK->Prop):Prop:=
 ∀(oq:oj (o3×Obj)) (s:o7) (σ:St) (H:Hp) (xs:oj V) (us:oj o6) (Q:VK),#[I]->im xs us->r xs H Q->
  V7 #[X,X] X.A (call f us) (EP X oq σ Q) X.xe s
nonrec def AdU (X:Cx)(r:V->Hp->(Bool->Hp->Prop)->Prop):Prop:=
 ∀(oq:oj (o3×Obj)) (s:o7) (σ:St) (H:Hp) (x:V) (v:o6) (Q:Bool->Hp->Prop),#[I]->ik x v->r x H Q->
  V7 #[X,X] X.A (truthy v) (TP X oq σ Q) X.xe s
nonrec def tOp (r:R2)(ta tb:TE):TE:=λσ H Q=>ta σ H λx H1=>tb σ H1 λy H2=>r x y H2 Q
nonrec def tUn (r:V->Hp->VK->Prop)(ta:TE):TE:=λσ H Q=>ta σ H λx H1=>r x H1 Q
inductive rI (C:Int->Int->Prop)(g:Int->Int->V)(x:V)(y:V)(H:Hp)(Q:VK):Prop
 |mk (i:_)(j:_)(_:x= .int i)(_:y= .int j)(_:C i j)(_:Q (g i j) H)
inductive rI0 (g:Int->Int->V)(x:V)(y:V)(H:Hp)(Q:VK):Prop
 |mk (i:_)(j:_)(_:x= .int i)(_:y= .int j)(_:Q (g i j) H)
inductive rU (g:Int->V)(x:V)(H:Hp)(Q:VK):Prop
 |mk (i:_)(_:x= .int i)(_:Q (g i) H)
section
variable {X:Cx}{a b c:Expr}{ta tb tc:TE}{pos:Pos}
def AcN (ha:PE X a ta)(O:PE X b tb){oq:oj (o3×Obj)}{s:o7}{σ:St}{H:Hp}{R:V->V->Hp->Prop}(I:#[I])
  (h:ta σ H λx H1=>tb σ H1 λy H2=>R x y H2) {Q:o6->o7->Prop}{f:o6->o6->Sem o6}
  (U:∀v u s2 x y H2,Inv X oq σ H2 s2->ik x v->ik y u->R x y H2->V7 #[X,X] X.A (f v u) Q X.xe s2):
  V7 #[X,X] X.A (eval a X.env) (λv Z=>V7 #[X,X] X.A (eval b X.env) (λu s₂=>V7 #[X,X] X.A (f v u) Q X.xe s₂) X.xe Z) X.xe s:=by
 refine thn (ha oq s σ H _ I h) λv s1 zq=>?_;erw[zq,x,H1,I1,r1,q1];refine thn (O oq s1 σ H1 _ I1 q1) λu s2 zq=>?_;erw[zq,y,H2,I2,r2,q2];exact U v u s2 x y H2 I2 r1 r2 q2
def qY {O:GT}{r:R2}(U:OpR X (VI O) r)(ha:PE X a ta)(Z:PE X b tb):PE X (.BinOp a O b pos) (tOp r ta tb):=by
 exists 2,Q,I,h;exact wpAny_BinOp (AcN ha Z I h λv u s2 x y H2 I2 rx ry q=>U oq s2 σ H2 x y v u Q I2 rx ry q)
def KZ {O:UnaryOp}{r:V->Hp->VK->Prop}(U:UnR X (unaryOp O) r)(ha:PE X a ta):PE X (.UnaryOp O a pos) (tUn r ta):=by
 exists 2,Q,I,h;exact UnaryOp_ (thn (ha oq s σ H _ I h) λv s1 ⟨x,H1,Z,r1,q1⟩=>U oq s1 σ H1 x v Q Z r1 q1)
def opI {f:o6->o6->Sem o6}{C:Int->Int->Prop}{g:Int->Int->Int}
  (rule:∀(i j:Int) (t u:Tok) (s:o7) (Q:o6->o7->Prop) (E:o6->o7->Prop),C i j->Q (.int (g i j) s.toks) {s with toks:=s.toks+1}->V7 #[X,X] X.A (f (.int i t) (.int j u)) Q E s):
  OpR X f (rI C λi j=> .int (g i j)):=by
 exists 2,x,y,v,u,Q,I,O,U,h;erw[h,i,j,rfl,rfl,Z,q];erw[O,t,rfl];erw[U,t',rfl];exact rule i j t t' s _ _ Z ⟨.int (g i j),H,I.tok _,⟨0⟩,q⟩
def Adc {f:o6->o6->Sem o6}{g:Int->Int->Int}
  (rule:∀(i j:Int) (t u:Tok) (s:o7) (Q:o6->o7->Prop) (E:o6->o7->Prop),Q (.int (g i j) s.toks) {s with toks:=s.toks+1}->V7 #[X,X] X.A (f (.int i t) (.int j u)) Q E s):
  OpR X f (rI0 λi j=> .int (g i j)):=by
 exists 2,x,y,v,u,Q,I,O,U,h;erw[h,i,j,rfl,rfl,q];erw[O,t,rfl];erw[U,t',rfl];exact rule i j t t' s _ _ ⟨.int (g i j),H,I.tok _,⟨0⟩,q⟩
def AbL {f:o6->o6->Sem o6}{g:Int->Int->Bool}
  (rule:∀(i j:Int) (t u:Tok) (s:o7) (Q:o6->o7->Prop) (E:o6->o7->Prop),Q (.bool (g i j)) s->V7 #[X,X] X.A (f (.int i t) (.int j u)) Q E s):
  OpR X f (rI0 λi j=> .bl (g i j)):=by
 exists 2,x,y,v,u,Q,I,O,U,h;erw[h,i,j,rfl,rfl,q];erw[O,t,rfl];erw[U,t',rfl];exact rule i j t t' s _ _ ⟨.bl (g i j),H,I,1,q⟩
nonrec def AdY (i j:Int):Prop:=0<j/\j<1073741824
nonrec def AdX (i j:Int):Prop:=0<=j/\j<=1000000/\i.natAbs<2^64
nonrec def AbQ (i j:Int):Prop:=(-(2^64)<i/\i<2^64)∨(-(2^64)<j/\j<2^64)
def AbQ.ok {i j:Int}(h:AbQ i j):IntMulOk i j:=by
 rcases h with⟨h1,h2⟩|⟨h1,h2⟩
 ·exact .of_left (FE h1 h2)
 ·exact .of_right (FE h1 h2)
def yi:OpR X (VI .Add) (rI0 λi j=> .int (i+j)):=Adc λ_ _ _ _ _ _ _ q=>add_int q
def WW:OpR X (VI .Sub) (rI0 λi j=> .int (i-j)):=Adc λ_ _ _ _ _ _ _ q=>sub_int q
def ow:OpR X (VI .Mult) (rI AbQ λi j=> .int (i*j)):=opI λ_ _ _ _ _ _ _ O q=>mul_int q O.ok
def sN:OpR X (VI .FloorDiv) (rI AdY λi j=> .int (i/j)):=opI λi j _ _ _ _ _ O q=>by
 have h1:(0:Int)<j:=O.1;have h2:j<1073741824:=O.2;exact floordiv_int () (by rwa[Int.fdiv_eq_ediv_of_nonneg i ()]) (.inl (PyProof.noPylong_small ()))
def xp:OpR X (VI .Mod) (rI (λ_ j=>0<j) λi j=> .int (i%j)):=opI λi j _ _ _ _ _ O q=>by
 have h1:(0:Int)<j:=O;exact mod_int' () (by rwa[Int.fmod_eq_emod_of_nonneg i ()])
def AaA:OpR X (VI .Pow) (rI AdX λi j=> .int (i^j.toNat)):=opI λ_ _ _ _ _ _ _ O q=>pow_int_small O.1 O.2.1 O.2.2 q
def unI {f:o6->Sem o6}{g:Int->Int}
  (rule:∀(i:Int) (t:Tok) (s:o7) (Q:o6->o7->Prop) (E:o6->o7->Prop),Q (.int (g i) s.toks) {s with toks:=s.toks+1}->V7 #[X,X] X.A (f (.int i t)) Q E s):
  UnR X f (rU λi=> .int (g i)):=by
 exists 2,x,v,Q,I,O,h;erw[h,i,rfl,q];erw[O,t,rfl];exact rule i t s _ _ ⟨.int (g i),H,I.tok _,⟨0⟩,q⟩
def Ax:UnR X (unaryOp .USub) (rU λi=> .int (-i)):=unI λ_ _ _ _ _ q=>neg_int q
nonrec def Ac5:V->V->Bool
 | .non,.non=>v_| .non,.int _=>v_| .int _,.non=>v_| .non,.bl _=>v_| .bl _,.non=>v_| .non,.str _=>v_| .str _,.non=>v_
 | .int _,.int _=>v_| .bl _,.bl _=>v_| .str _,.str _=>v_| .byt _,.byt _=>v_
 | .int _,.str _=>v_| .str _,.int _=>v_| .bl _,.str _=>v_| .str _,.bl _=>v_
 |_,_=>V6
nonrec def rEq:R2:=λx y H Q=>Ac5 x y=v_/\Q (.bl (decide (x=y))) H
nonrec def rNe:R2:=λx y H Q=>Ac5 x y=v_/\Q (.bl (!decide (x=y))) H
def EV {i j:Int}:decide (V.int i=V.int j)=(i==j):=by
 rw[vJ];simp
def MQ {i j:Bool}:decide (V.bl i=V.bl j)=(i==j):=by
 rw[vJ];simp
def EU {i j:Str}:decide (V.str i=V.str j)=(i==j):=by
 rw[vJ];simp
def EW {i j:Array UInt8}:decide (V.byt i=V.byt j)=(i.toList==j.toList):=by
 rw[vJ];cases i;cases j;simp
variable {Q:VK}
def Qp {k O:Bool}(I:#[I])(q:Q (.bl k) H)(e:k=O):EP X oq σ Q (.bool O) s:=by
 subst e;exact⟨.bl k,H,I,1,q⟩
def Qr:OpR X (Vj .Eq) rEq:=by
 exists 2,x,y,v,u,Q,I,Z,O,h;erw[h,U,q];cases x with
 |non=>
  cases Z;cases y with
  |non=>cases O;exact PySem.EqNone.eq_none_none (Qp I q (by simp))
  |bl j=>cases O;exact PySem.EqNone.eq_none_bool (Qp I q (by simp))
  |int j=>erw[O,t',rfl];exact PySem.EqNone.eq_none_int (Qp I q (by simp))
  |str j=>erw[O,t',rfl];exact PySem.EqNone.eq_none_str (Qp I q (by simp))
  |_=>exact A7 (show V6=v_ from U) uc
 |bl i=>
  cases Z;cases y with
  |non=>cases O;exact PySem.EqNone.eq_bool_none (Qp I q (by simp))
  |bl j=>cases O;exact eq_bool (Qp I q MQ)
  |str j=>erw[O,t',rfl];exact PySem.EqMixed.eq_bool_str (Qp I q (by simp))
  |_=>exact A7 (show V6=v_ from U) uc
 |int i=>
  erw[Z,t,rfl];cases y with
  |non=>cases O;exact PySem.EqNone.eq_int_none (Qp I q (by simp))
  |int j=>erw[O,t',rfl];exact eq_int (Qp I q EV)
  |str j=>erw[O,t',rfl];exact PySem.EqMixed.eq_int_str (Qp I q (by simp))
  |_=>exact A7 (show V6=v_ from U) uc
 |str i=>
  erw[Z,t,rfl];cases y with
  |non=>cases O;exact PySem.EqNone.eq_str_none (Qp I q (by simp))
  |bl j=>cases O;exact PySem.EqMixed.eq_str_bool (Qp I q (by simp))
  |int j=>erw[O,t',rfl];exact PySem.EqMixed.eq_str_int (Qp I q (by simp))
  |str j=>erw[O,t',rfl];exact eq_str (Qp I q EU)
  |_=>exact A7 (show V6=v_ from U) uc
 |byt i=>
  erw[Z,t,rfl];cases y with
  |byt j=>erw[O,t',rfl];exact PySem.W.eq_bytes (Qp I q EW)
  |_=>exact A7 (show V6=v_ from U) uc
 |_=>cases y<;>exact A7 (show V6=v_ from U) uc
def ou:OpR X (Vj .NotEq) rNe:=by
 exists 2,x,y,v,u,Q,I,Z,O,h;erw[h,U,q];cases x with
 |non=>
  cases Z;cases y with
  |non=>cases O;exact PySem.EqNone.ne_none_none (Qp I q (by simp))
  |bl j=>cases O;exact PySem.EqNone.ne_none_bool (Qp I q (by simp))
  |int j=>erw[O,t',rfl];exact PySem.EqNone.ne_none_int (Qp I q (by simp))
  |str j=>erw[O,t',rfl];exact PySem.EqNone.ne_none_str (Qp I q (by simp))
  |_=>exact A7 (show V6=v_ from U) uc
 |bl i=>
  cases Z;cases y with
  |non=>cases O;exact PySem.EqNone.ne_bool_none (Qp I q (by simp))
  |bl j=>cases O;exact ne_bool (Qp I q (A8 not MQ))
  |str j=>erw[O,t',rfl];exact PySem.EqMixed.ne_bool_str (Qp I q (by simp))
  |_=>exact A7 (show V6=v_ from U) uc
 |int i=>
  erw[Z,t,rfl];cases y with
  |non=>cases O;exact PySem.EqNone.ne_int_none (Qp I q (by simp))
  |int j=>erw[O,t',rfl];exact ne_int (Qp I q (A8 not EV))
  |str j=>erw[O,t',rfl];exact PySem.EqMixed.ne_int_str (Qp I q (by simp))
  |_=>exact A7 (show V6=v_ from U) uc
 |str i=>
  erw[Z,t,rfl];cases y with
  |non=>cases O;exact PySem.EqNone.ne_str_none (Qp I q (by simp))
  |bl j=>cases O;exact PySem.EqMixed.ne_str_bool (Qp I q (by simp))
  |int j=>erw[O,t',rfl];exact PySem.EqMixed.ne_str_int (Qp I q (by simp))
  |str j=>erw[O,t',rfl];exact ne_str (Qp I q (A8 not EU))
  |_=>exact A7 (show V6=v_ from U) uc
 |byt i=>
  erw[Z,t,rfl];cases y with
  |byt j=>erw[O,t',rfl];exact PySem.W.ne_bytes (Qp I q (A8 not EW))
  |_=>exact A7 (show V6=v_ from U) uc
 |_=>cases y<;>exact A7 (show V6=v_ from U) uc
def Dv:OpR X (Vj .Lt) (rI0 λi j=> .bl (decide (i<j))):=AbL λ_ _ _ _ _ _ _ q=>lt_int q
def Dw:OpR X (Vj .LtE) (rI0 λi j=> .bl (decide (i<=j))):=AbL λ_ _ _ _ _ _ _ q=>le_int q
def oy:OpR X (Vj .Gt) (rI0 λi j=> .bl (decide (j<i))):=AbL λ_ _ _ _ _ _ _ q=>gt_int q
def Acp:OpR X (Vj .GtE) (rI0 λi j=> .bl (decide (j<=i))):=AbL λ_ _ _ _ _ _ _ q=>ge_int q
def Du:OpR X (Vj .Lt) (λx y H Q=>∃i j,x= .str i/\y= .str j/\Q (.bl (decide (i.cps.toList<j.cps.toList))) H):=by
 exists 2,x,y,v,u,Q,I,O,U,h;erw[h,i,j,rfl,rfl,q];erw[O,t,rfl];erw[U,t',rfl];exact lt_str (Qp I q rfl)
def Dx:OpR X (Vj .In) (λx y H Q=>∃i j,x= .str i/\y= .str j/\Q (.bl (!(Hl j i 0 ↑j 1).isEmpty)) H):=by
 exists 2,x,y,v,u,Q,I,O,U,h;erw[h,i,j,rfl,rfl,q];erw[O,t,rfl];erw[U,t',rfl];exact in_str (Qp I q rfl)
def yI:OpR X (Vj .Is) (λx y H Q=>y= .non/\Q (.bl (decide (x= .non))) H):=by
 exists 2,x,y,v,u,Q,I,O,U,h;erw[h,rfl,q];cases U;refine is_none_gen (Qp I q ?_);cases x<;>first
  |(cases O;rfl)
  |(erw[O,t,rfl];rfl)
def Wb:OpR X (Vj .IsNot) (λx y H Q=>y= .non/\Q (.bl (!decide (x= .non))) H):=by
 exists 2,x,y,v,u,Q,I,O,U,h;erw[h,rfl,q];cases U;refine isnot_none_gen (Qp I q ?_);cases x<;>first
  |(cases O;rfl)
  |(erw[O,t,rfl];rfl)
def qu (b:Expr){O:GL}(h:O≠ .In:=by decide)(h2:O≠ .NotIn:=by decide):GS O b=false:=by
 have U:(O==CmpOp.In)=false:=by cases O<;>first|rfl|exact A7 rfl h
 have Z:(O==CmpOp.NotIn)=false:=by cases O<;>first|rfl|exact A7 rfl h2
 cases b<;>simp[GS,U,Z]
def Qg {O:GL}{r:R2}(U:OpR X (Vj O) r)(ha:PE X a ta)(Z:PE X b tb)(hm:GS O b=V6):PE X (.Compare a [O] [b] pos) (tOp r ta tb):=by
 exists 2,Q,I,h;exact wpAny_Compare1 (AcN ha Z I h λv u s2 x y H2 I2 rx ry q=>U oq s2 σ H2 x y v u Q I2 rx ry q) hm
inductive Aby (Q:(Bool->Hp->Prop))(x:V)(H':Hp):Prop
 |mk (k:_)(_:x= .bl k)(_:Q k H')
nonrec def SH (t:TE):TT:=λσ H Q=>t σ H λx H'=>Aby Q x H'
def qm {O:GL}{r:R2}(U:OpR X (Vj O) r)(ha:PE X a ta)(Z:PE X b tb)(hm:GS O b=V6):PT X (.Compare a [O] [b] pos) (SH (tOp r ta tb)):=by
 exists 2,Q,I,h;refine Fp (thn (ha oq s σ H _ I h) λv s1 ⟨x,H1,I1,r1,q1⟩=>thn (Z oq s1 σ H1 _ I1 q1) λu s2 ⟨y,H2,I2,r2,q2⟩=>
  thn (U oq s2 σ H2 x y v u _ I2 r1 r2 q2) λc s3 ⟨z,H3,I3,r3,k,e,q3⟩=>?_) hm
 subst e;cases r3;exact vw [H3:I3:q3]
nonrec def SQ (r r':R2)(ta tb tc:TE):TE:=λσ H Q=>ta σ H λx H1=>tb σ H1 λy H2=>r x y H2 λz H3=>∃k,z= .bl k/\
 (if k=v_ then tc σ H3 λw' H4=>r' y w' H4 Q else Q (.bl V6) H3)
def AR {U O:GL}{r r':R2}(ho:OpR X (Vj U) r)(Z:OpR X (Vj O) r')(ha:PE X a ta)(hb:PE X b tb)(hc:PE X c tc)
  (hm:lastMarks [U,O] [b,c]=V6):PT X (.Compare a [U,O] [b,c] pos) (SH (SQ r r' ta tb tc)):=by
 exists 2,Q,I,h;refine isTrue_chain (thn (ha oq s σ H _ I h) λv s1 ⟨x,H1,I1,r1,q1⟩=>test_link (thn (hb oq s1 σ H1 _ I1 q1) λu s2 ⟨y,H2,I2,r2,q2⟩=>
  thn (ho oq s2 σ H2 x y v u _ I2 r1 r2 q2) λd s3 ⟨z,H3,I3,r3,k,e,q3⟩=>?_)) hm
 subst e;cases r3;refine vw ?_;cases k with
 |false=>
  erw[q3,k',e',q'];cases e';exact ite_ff [H3:I3:q']
 |true=>
  refine ite_tt (test_last (thn (hc oq s3 σ H3 _ I3 q3) λw' s4 ⟨z',H4,I4,r4,q4⟩=>thn (Z oq s4 σ H4 y z' u w' _ I4 r2 r4 q4) λd' s5 zq=>?_));erw[zq,z2,H5,I5,r5,k2,e2,q5];subst e2;cases r5;exact vw [H5:I5:q5]
nonrec def Adl (K:o0)(x:V)(H:Hp)(k:Bool):Prop:=
 match x with
 | .non=>k=V6
 | .bl b=>k=b
 | .int i=>k=(i !=0)
 | .str y=>↑y<=V9/\k=((↑y:Int) !=0)
 | .byt y=>y.size<=V9/\k=((y.size:Int) !=0)
 | .ref p=>(∃xs,SqL K H p xs/\k= !xs.isEmpty)∨(∃xs,SqT K H p xs/\k= !xs.isEmpty)∨∃kvs,H p=u_ (.dK kvs)/\k= !kvs.isEmpty
 |_=>False
def Ci {κ:Type}{kvs:oj (κ×V)}{vs:oj (κ×o6)}(r:KV kvs vs):(!vs.isEmpty)= !kvs.isEmpty:=by
 cases r<;>rfl
variable {its:oj o6}
def kj (r:im xs its):(!its.toArray.isEmpty)= !xs.isEmpty:=by
 cases r<;>simp
def Zn:(V9:Nat)<2^63:=by rw[uI];decide
def SB:AdU X (λx H Q=>∃k,Adl X.K x H k/\Q k H):=by
 exists 2,x,v,Q,I,Z,h;erw[h,k,e,q];have hl:=Zn;have hs:V9=16777216:=uI;cases x with
 |non=>
  cases Z;have O:k=false:=e;subst O;exact truthy_none [H:I:q]
 |bl b=>
  cases Z;have O:k=b:=e;subst O;exact vw [H:I:q]
 |int i=>
  erw[Z,t,rfl];have O:k=(i !=0):=e;subst O;exact PySem.P.truthy_int [H:I:q]
 |str y=>
  erw[Z,t,rfl];obtain⟨hy,O⟩:↑y<=V9/\k=((↑y:Int) !=0):=e;subst O;exact PySem.P.truthy_str () [H:I.tok _:q]
 |byt y=>
  erw[Z,t,rfl];obtain⟨hy,O⟩:y.size<=V9/\k=((y.size:Int) !=0):=e;subst O;exact PySem.W.truthy_bytes () [H:I.tok _:q]
 |ref p=>
  cases Z;have O:(∃xs,SqL X.K H p xs/\k= !xs.isEmpty)∨(∃xs,SqT X.K H p xs/\k= !xs.isEmpty)∨∃kvs,H p=u_ (.dK kvs)/\k= !kvs.isEmpty:=e;rcases O with⟨xs,hx,O⟩|⟨xs,hx,O⟩|⟨kvs,hx,O⟩
  ·subst O;erw[I.list hx,its,r,pl,hz];have U:=↑r;exact wpAny_truthy_list pl.isList (by simp![uz];omega) ⟨H,I.tok _,by rwa[kj r]⟩
  ·subst O;erw[I.tuple hx,its,r,pl,hz];have U:=↑r;exact truthy_tuple pl (by simp![uz];omega) ⟨H,I.tok _,by rwa[kj r]⟩
  ·subst O;obtain⟨hz,hS,vs,r,m⟩:↑kvs<=V9/\(p==Vv)=V6/\∃vs,KV kvs vs/\s.heap.DictOf (Qu X.prog X.w) p vs:=I.hok p _ hx;have U:↑kvs=↑vs:=Paired.length r;exact wpAny_truthy_dict hS m () ⟨H,I.tok _,by rwa[Ci r]⟩
 |_=>exact(show False from e).elim
def AO (ha:PE X a ta)(U:∀O,isTrue a X.env O=(do let v<-O;GX a.pos;gV [v] (truthy v))):
  PT X a (λσ H Q=>ta σ H λx H'=>∃k,Adl X.K x H' k/\Q k H'):=by
 exists 2,Q,I,h;exact FO (thn (ha oq s σ H _ I h) λv s1 ⟨x,H1,Z,r1,q1⟩=>SB oq s1 σ H1 x v Q Z r1 q1) (U _)
def Qo:OpR X (VI .Add) (λx y H Q=>∃i j,x= .str i/\y= .str j/\↑i+↑j<=V9/\Q (.str (i++j)) H):=by
 exists 2,x,y,v,u,Q,I,O,U,h;erw[h,i,j,rfl,rfl,Z,q];erw[O,t,rfl];erw[U,t',rfl];exact uZ (n:=1) I.tk (add_str (λt' tk htk=>⟨.str (i++j),H,I.tok _,⟨0⟩,q⟩) Z)
def Jw {x:V}(r:im [x] us):∃u,us= [u]/\ik x u:=by
 cases r with
 |cons O U=>cases U;exact[0:O]
def Ct {x:V}(r:im [x,y] us):∃u O,us= [u,O]/\ik x u/\ik y O:=by
 cases r with
 |cons U Z=>
  cases Z with
  |cons r3 r4=>cases r4;exact⟨_,0,U,r3⟩
def BI:Yt X (.builtin "abs") (λxs H Q=>∃i,xs= [.int i]/\Q (.int (if i<0 then-i else i)) H):=by
 exists 2,xs,us,Q,I,r,h;erw[h,i,rfl,q];erw[Jw r,u,rfl,t,rfl];exact uZ (n:=1) I.tk (call_abs_int λu tk htk=>⟨.int (if i<0 then-i else i),H,I.tok _,⟨0⟩,q⟩)
def oY (U:X.calm=v_):Yt X (.builtin "max") (λxs H Q=>∃i j,xs= [.int i,.int j]/\Q (.int (if j>i then j else i)) H):=by
 exists 2,xs,us,Q,I,r,h;erw[h,i,j,rfl,q];erw[Ct r,u,Z,rfl,[t,rfl],[t',rfl]];refine uZ (n:=1) I.tk (max_two_ints (I.ok.hd U) λh' tk k htk=>⟨_,H,I.kept k,?_,q⟩);by_cases O:j>i
 ·rw[A3 O,A3 O];exact⟨0⟩
 ·rw[A2 O,A2 O];exact⟨0⟩
def E8 (U:X.calm=v_):Yt X (.builtin "min") (λxs H Q=>∃i j,xs= [.int i,.int j]/\Q (.int (if j<i then j else i)) H):=by
 exists 2,xs,us,Q,I,r,h;erw[h,i,j,rfl,q];erw[Ct r,u,Z,rfl,[t,rfl],[t',rfl]];refine uZ (n:=1) I.tk (min_two_ints (I.ok.hd U) λh' tk k htk=>⟨_,H,I.kept k,?_,q⟩);by_cases O:j<i
 ·rw[A3 O,A3 O];exact⟨0⟩
 ·rw[A2 O,A2 O];exact⟨0⟩
def Y9:Yt X (.type "str") (λxs H Q=>∃i,xs= [.int i]/\i.natAbs.log2<1920/\Q (.str (Vi i)) H):=by
 exists 2,xs,us,Q,I,r,h;erw[h,i,rfl,O,q];erw[Jw r,u,rfl,t,rfl];exact PySem.P.str_of_int O ⟨.str _,H,I.tok _,⟨0⟩,q⟩
def LV:Yt X (.builtin "ord") (λxs H Q=>∃x,xs= [.str x]/\↑x=1/\Q (.int (x.cps.getD 0 0:Nat)) H):=by
 exists 2,xs,us,Q,I,r,h;erw[h,x,rfl,O,q];erw[Jw r,u,rfl,t,rfl];exact ord_of_one O ⟨.int _,H,I.tok _,⟨0⟩,q⟩
nonrec def AdW (K:o0)(x:V)(H:Hp)(n:Nat):Prop:=
 match x with
 | .str y=>↑y<=V9/\n=↑y
 | .byt y=>y.size<=V9/\n=y.size
 | .ref p=>(∃xs,SqL K H p xs/\n=↑xs)∨∃xs,SqT K H p xs/\n=↑xs
 |_=>False
def Ka:Yt X (.builtin "len") (λxs H Q=>∃x n,xs= [x]/\AdW X.K x H n/\Q (.int n) H):=by
 exists 2,xs,us,Q,I,r,h;erw[h,x,n,rfl,e,q];erw[Jw r,u,rfl,Z];have hl:=Zn;have hs:V9=16777216:=uI;cases x with
 |str y=>
  erw[Z,t,rfl];obtain⟨hy,U⟩:↑y<=V9/\n=↑y:=e;subst U;exact len_str () ⟨.int _,H,I.tok _,⟨0⟩,q⟩
 |byt y=>
  erw[Z,t,rfl];obtain⟨hy,U⟩:y.size<=V9/\n=y.size:=e;subst U;exact PySem.W.len_bytes () ⟨.int _,H,I.tok _,⟨0⟩,q⟩
 |ref p=>
  cases Z;have U:(∃xs,SqL X.K H p xs/\n=↑xs)∨∃xs,SqT X.K H p xs/\n=↑xs:=e;rcases U with⟨xs,hx,U⟩|⟨xs,hx,U⟩
  ·subst U;erw[I.list hx,its,r',pl,hz];have O:=↑r';exact RO pl.isList (by simp![uz];omega) ⟨.int ↑xs,H,I.tok _,⟨_,by simp![uz];rw[O]⟩,q⟩
  ·subst U;erw[I.tuple hx,its,r',pl,hz];have O:=↑r';exact len_tuple pl (by simp![uz];omega) ⟨.int ↑xs,H,I.tok _,⟨_,by simp![uz];rw[O]⟩,q⟩
 |_=>exact(show False from e).elim
end
structure PV (h:o8)(x dx C:o3)(mA:Str->om o6):Prop where
 obj:h.get? x=u_ (PySem.W.instObj C dx)
 ns:h.Ns1 dx mA
 ne:dx≠x
variable {dx:o3}
def D8 {mA:Str->om o6}(n:h.Ns1 dx mA):∃od,h.get? dx=u_ od/\∀name,PySem.W.lookIn name od=u_ (mA name):=by
 erw[n,o,es,ep,U,hd,Z,_,hm];exists o,U,λname=>?_;have e:=hm name;unfold nsFind findBy at e;rw[<-Array.find?_toList] at e;unfold PySem.W.lookIn;rw[hd];dsimp only;split
 ·rename_i y q
  rw[q] at e;exact A8 u_ e
 ·rename_i q
  rw[q] at e;have a:es.toList.any (·.refKey)=false:=by
   rw[T7];intro y hy;erw[Z y (Array.mem_toList_iff.mp hy),z,t,O];simp[Rx,O]
  have a':¬es.toList.any (·.refKey)=true:=by rw[a];exact uc
  rw[A2 a'];exact A8 u_ e
variable {C:o3}
def PV.look {x:o3}{mA:Str->om o6}(I:PV h x dx C mA):∃od,PySem.W.InstAt h x (PySem.W.instObj C dx) C (u_ od)/\∀name,PySem.W.lookIn name od=u_ (mA name):=
 let⟨od,ho,hl⟩:=D8 I.ns
 [od:⟨I.obj,1,1,ho⟩:hl]
section
variable {prog:o9}{w:og}{A:oh}{E:o6->o7->Prop}{s:o7}{K:o0}{x dx C f:o3}{mA:Str->om o6}{name:Str}{v:o6}
def Pm {O:Bool}{Q:o6->o7->Prop}(X:K.In s.heap)(I:PV s.heap x dx C mA)(Z:PySem.W.plainGet K C name=v_)(hh:PySem.W.hasDictIn K C=v_)
  (ha:PySem.W.findIn K (.ref C) name=u_ U_) (hv:mA name=u_ v) (U:PySem.W.handedIn v=v_) (h:Q v {s with toks:=s.toks+1}):
  V7 #[w,w] A (T9 (.ref x) name O) Q E s:=by
 erw[I.look,od,J,hl];exact PySem.W.get_value X J (PySem.W.plainGet_of Z).1 (PySem.W.findObj_own hh ha rfl (by rw[hl,hv])) U h
def LL {pl:Sem Bool}{Q:o6×oj o6->o7->Prop}(X:K.In s.heap)(I:PV s.heap x dx C mA)(O:PySem.W.plainGet K C name=v_)
  (U:PySem.W.findIn K (.ref C) name=u_ (u_ (.ref f))) (Z:PySem.W.isFn K (.ref f)=v_) (hv:mA name=U_) (h:Q (.ref f,[.ref x]) s):
  V7 #[w,w] A (HL (.ref x) name pl) Q E s:=by
 erw[I.look,od,J,hl];exact PySem.W.method_fn X J (PySem.W.plainGet_of O).1 (PySem.W.plainGet_of O).2 U (beq_iff_eq.mp Z) (by show(PySem.W.lookIn name od).map (·.isSome)=u_ V6;rw[hl,hv];rfl) h
def NT {ns:oj Str}{Q:Unit->o7->Prop}(X:K.In s.heap)(I:PV s.heap x dx C mA)
  (hs:PySem.W.findIn K (.ref C) "__setattr__"=u_ (u_ (.builtin "object.__setattr__"))) (hp:PySem.W.plainOver K C=v_) (ht:PySem.W.takerIn K C name=u_ U_) (hh:PySem.W.hasDictIn K C=v_)
  (hw:PySem.Within mA ns) (hsz:↑ns<=V9)
  (h:∀h',PV h' x dx C (λy=>if y=name then u_ v else mA y)->Gr dx s.heap h'->Q VH {s with heap:=h',toks:=s.toks+2}):
  V7 #[w,w] A (setAttr (.ref x) name v) Q E s:=by
 erw[I.look,od,J,hl];refine PySem.W.set_plain X J hs (PySem.W.osa_open (s:={s with toks:=s.toks+1}) (r:=U_) X J hp ht λb=>?_)
 erw[PySem.W.any_some hh,cd,hc,Z];have hx:s.heap.get? x=u_ ⟨.ref C,u_ dx,.plain,#[]⟩:=I.obj;refine A4 (Vb (A4 (A4 (wpAny_loadPart hx (A4 (PySem.W.Looks.here (s:={s with toks:=s.toks+1}) (PySem.W.looks_clsIn X hc) ?_))))))
 rw[Z];refine Vb (a:=u_ dx) (A4 (Vb (A4 ?_)));refine wpAny_nsSet1 (s:={s with toks:=s.toks+1}) I.ns λh' O U=>?_
 erw[O.count (PySem.Within.cons name v hw),oD,ae,af,aa,ac,ad];refine A4 (wpAny_lookBehind aa (by rw[ac];exact pastItsLine_dict (uT ad (by rw[uu];omega))) ?_)
 exact Vb (h _ [(U.2 _ (Ux I.ne)).trans I.obj:O:I.ne] U)
def Lz {R:G7->o7->Prop}{vs:oj o6}{O:oj (Str×o6)}(X:K.In s.heap)(hm:PySem.W.makesIn K C=v_)
  (hi:PySem.W.findIn K (.ref C) "__init__"=u_ (u_ (.ref f))) (U:PySem.W.typeIn K (.ref f)=u_ (.type "function"))
  (h:VA #[w,w] (A.under (.builtin "type.__call__" [.ref C::vs:O])) (.call (.ref f) [.ref (#[0,s]+1)::vs:O]) (PySem.W.InitBack (#[0,s]+1) R)
   {s with heap:=(s.heap.push PySem.W.emptyDict).push (PySem.W.instObj C #[0,s])}):
  VA #[w,w] A (.call (.ref C) [vs:O]) R s:=by
 erw[s,Z,g,d,t,os];exact PySem.W.make_core (PySem.W.makes_of X hm) (PySem.W.looks_findIn X hi) (λself=>PySem.W.bind_fn X self U) (.inl rfl) h
end
nonrec def iF (f:Str)(v:V):oj (Str×V)->oj (Str×V)
 | []=> [(f,v)]
 |(g,x)::r=>if g=f then(g,v)::r else(g,x)::iF f v r
def qK (f g:Str)(v:V):∀fs:oj (Str×V),(iF f v fs).lookup g=if g=f then u_ v else fs.lookup g
 | []=>by
  show Vz g [(f,v)]=_;by_cases h:g=f
  ·have O:(g==f)=true:=beq_iff_eq.mpr h;simp![Vz,O,A3 h]
  ·have O:(g==f)=false:=beq_eq_false_iff_ne.mpr h;simp![Vz,O,A2 h]
 |(k,x)::r=>by
  have Z:=qK f g v r;rw[show iF f v ((k,x)::r)=(if k=f then(k,v)::r else(k,x)::iF f v r) from rfl]
  by_cases U:k=f
  ·rw[A3 U];by_cases h:g=k
   ·have O:(g==k)=true:=beq_iff_eq.mpr h;simp![Vz,O,A3 (h.trans U)]
   ·have O:(g==k)=false:=beq_eq_false_iff_ne.mpr h;simp![Vz,O,A2 (λe:g=f=>h (e.trans U.symm))]
  ·rw[A2 U];by_cases h:g=k
   ·have O:(g==k)=true:=beq_iff_eq.mpr h;simp![Vz,O,A2 (λe:g=f=>U (h.symm.trans e))]
   ·have O:(g==k)=false:=beq_eq_false_iff_ne.mpr h;simp![Vz,O];exact Z
def Z2 (f:Str)(v:V):∀fs:oj (Str×V),f∈(iF f v fs).map (·.1)/\∀g,g∈fs.map (·.1)->g∈(iF f v fs).map (·.1)
 | []=>⟨by simp[iF],λg h=>by simp at h⟩
 |(k,x)::r=>by
  erw[Z2 f v r,U,Z];rw[show iF f v ((k,x)::r)=(if k=f then(k,v)::r else(k,x)::iF f v r) from rfl]
  by_cases O:k=f
  ·rw[A3 O];subst O;exact⟨by simp,λg h=>by simpa using h⟩
  ·rw[A2 O];exists ?_,λg h=>?_
   ·rw[uC];exact ui _ U
   ·rw[uC] at h⊢;rcases A9.mp h with e|e
    ·exact A9.mpr (.inl e)
    ·exact ui _ (Z g e)
def wg (f:Str)(v:V):∀fs:oj (Str×V),↑(iF f v fs)<=↑fs+1
 | []=>by simp[iF]
 |(k,x)::r=>by
  have U:=wg f v r;rw[show iF f v ((k,x)::r)=(if k=f then(k,v)::r else(k,x)::iF f v r) from rfl]
  by_cases O:k=f
  ·rw[A3 O,uu,uu];omega
  ·rw[A2 O,uu,uu];omega
variable {v:V}
def nc.some_of {o:om o6}(r:nc (u_ v) o):∃u,o=u_ u/\ik v u:=by
 cases o with
 |none=>exact(show False from r).elim
 |some u=>exact[u:1:r]
def nc.none_of {o:om o6}(r:nc U_ o):o=none:=by
 cases o with
 |none=>rfl
 |some u=>exact(show False from r).elim
def Eu (r:ik v u):PySem.W.handedIn u=true:=by
 cases v with
 |non=>cases(show u=VF from r);rfl
 |bl b=>cases(show u=GR b from r);rfl
 |int i=>obtain⟨t,e⟩:=(show∃t,u=gX i t from r);cases e;rfl
 |str x=>obtain⟨t,e⟩:=(show∃t,u=Vu x t from r);cases e;rfl
 |byt b=>obtain⟨t,e⟩:=(show∃t,u=f_ b t from r);cases e;rfl
 |flt b=>obtain⟨t,e⟩:=(show∃t,u=t_ b t from r);cases e;rfl
 |ref a=>cases(show u=Ve a from r);rfl
 |ty n=>cases(show u=VY n from r);rfl
section
variable {P:o9}{w:og}{H H':Hp}{h h':o8}{a C dx:o3}{fs fs':oj (Str×V)}
def KW (hok:HOk P w H h)(e:H a=u_ (.ins C dx fs)):∃mA,PV h a dx C mA/\(∀f,nc (fs.lookup f) (mA f))/\PySem.Within mA (fs.map (·.1))/\↑fs<=1000/\H dx=u_ (.own a):=by
 obtain⟨d,z,ne,ob,mA,n,r,q⟩:=(show yf P w H h a (.ins C dx fs) from hok a _ e)
 exact⟨mA,[ob:n:ne],r,q,z,d⟩
end
structure Cls (K:o0)(C:o3):Prop where
 pg:PySem.W.plainGet K C tT=v_
 hd:PySem.W.hasDictIn K C=v_
 po:PySem.W.plainOver K C=v_
 sa:PySem.W.findIn K (.ref C) "__setattr__"=u_ (u_ (.builtin "object.__setattr__"))
def Cls.get (c:Cls K C)(f:Str):PySem.W.plainGet K C f=true:=c.pg
nonrec def QL (K:o0)(C:o3)(f:Str):Prop:=PySem.W.findIn K (.ref C) f=u_ U_
def QL.taker {f:Str}(n:QL K C f):PySem.W.takerIn K C f=u_ none:=by
 unfold PySem.W.takerIn;rw[show PySem.W.findIn K (.ref C) f=u_ U_ from n]
 rfl
structure AbO (K:o0)(C:o3)(m:Str)(f:o3):Prop where
 at_:PySem.W.findIn K (.ref C) m=u_ (u_ (.ref f))
 fn:PySem.W.isFn K (.ref f)=v_
 kp:PySem.W.keepIn K (.ref f)=v_
section
variable {X:Cx}{oq:oj (o3×Obj)}{σ:St}{H:Hp}{s:o7}{a C dx:o3}{fs:oj (Str×V)}{f:Str}{v:V}{A:oh}{E:o6->o7->Prop}
def WR {b:Bool}{Q:o6->o7->Prop}(I:#[I])(e:H a=u_ (.ins C dx fs))(c:Cls X.K C)(n:QL X.K C f)(l:fs.lookup f=u_ v)
  (h:∀u s',Inv X oq σ H s'->ik v u->Q u s'):V7 #[X,X] A (T9 (.ref a) f b) Q E s:=by
 erw[KW I.hok e,mA,O,r,_,_,_];obtain⟨u,U,ru⟩:=nc.some_of (v:=v) (o:=mA f) (by rw[<-l];exact r f)
 exact Pm I.kIn O (c.get f) c.hd n U (Eu ru) (h u _ (I.tok _) ru)
def kg {m:Str}{g:o3}{pl:Sem Bool}{Q:o6×oj o6->o7->Prop}(I:#[I])(e:H a=u_ (.ins C dx fs))(c:Cls X.K C)(k:AbO X.K C m g)(l:fs.lookup m=U_)
  (h:Q (.ref g,[.ref a]) s):V7 #[X,X] A (HL (.ref a) m pl) Q E s:=by
 erw[KW I.hok e,mA,O,r,_,_,_];have hn:mA m=none:=nc.none_of (by rw[<-l];exact r m)
 exact LL I.kIn O (c.get m) k.at_ k.fn hn h
def kI {y:V}{u:o6}{Q:Unit->o7->Prop}(I:#[I])(e:H a=u_ (.ins C dx fs))(c:Cls X.K C)(n:QL X.K C f)(hl:↑fs<1000)(ry:ik y u)
  (h:∀s',Inv X oq σ (upd H a (.ins C dx (iF f y fs))) s'->Q VH s'):V7 #[X,X] A (setAttr (.ref a) f u) Q E s:=by
 erw[KW I.hok e,mA,O,r,wi,_,Z];have hz:(fs.map (·.1)).length<=sizeLine:=by rw[ud,uI];omega
 refine NT I.kIn O c.sa c.po n.taker c.hd wi hz λh' U sb=>h _ ?_;have hd:∃o,h'.get? dx=u_ o:=let⟨o,_,_,e',_⟩:=U.ns;[o:e'];refine I.write (x:=a) (e:=dx) (by rw[e];exact VJ) (.inr Z) (λb q hb z=>(sb.2 b hb).trans z) hd ?_
 refine⟨by rwa[qj O.ne],?_,O.ne,U.obj,_,U.ns,λg=>?_,λg hg=>?_⟩
 ·have:=wg f y fs;omega
 ·show nc ((iF f y fs).lookup g) (if g=f then u_ u else mA g)
  rw[qK];by_cases q:g=f
  ·rwa[A3 q,A3 q]
  ·rw[A2 q,A2 q];exact r g
 ·by_cases q:g=f
  ·rw[q];exact(Z2 f y fs).1
  ·refine(Z2 f y fs).2 g (wi g λz=>hg ?_);show(if g=f then u_ u else mA g)=U_
   rw[A2 q];exact z
def Inv.made (I:#[I]):Inv X oq σ (upd (upd H #[0,s] (.own (#[0,s]+1))) (#[0,s]+1) (.ins C #[0,s] []))
  {s with heap:=(s.heap.push PySem.W.emptyDict).push (PySem.W.instObj C #[0,s])}:=by
 have O:(s.heap.push PySem.W.emptyDict).get? #[0,s]=u_ PySem.W.emptyDict:=uJ s.heap rfl;have U:((s.heap.push PySem.W.emptyDict).push (PySem.W.instObj C #[0,s])).get? (#[0,s]+1)=u_ (PySem.W.instObj C #[0,s]):=by
  have:=uJ (s.heap.push PySem.W.emptyDict) (o:=PySem.W.instObj C #[0,s]) rfl
  rwa[vf] at this
 have Z:(s.heap.push PySem.W.emptyDict).Ns #[0,s] (λ_=>U_):=⟨PySem.W.emptyDict,#[],_,O,1,(λe he=>A7 he (by simp)),λ_=>rfl⟩
 have I1:=I.laid (a:=#[0,s]) (o:= .own (#[0,s]+1)) (h':=s.heap.push PySem.W.emptyDict) (t':=s.toks) (λb u q=>uh _ q) (uq _) [_:O];refine I1.laid (a:=#[0,s]+1) (o:= .ins C #[0,s] []) (t':=s.toks) (λb u q=>uh _ q) (R1 (vf _ _)) ?_;have ne:#[0,s]≠#[0,s]+1:=uR (UZ _);refine⟨by rw[qj ne,qg],uP _,ne,U,λ_=>U_,(pV Z).at λo q=>uh _ q,λ_=>VJ,λy hy=>A7 rfl hy⟩
def PD {prog:o9}{w:og}{env:Env}{e:Expr}{f:Str}{pos:Pos}{s:o7}{Q:o6->o7->Prop}(O:GE e f env (eval e env)=eval e env)
  (h:V7 #[w,w] A (eval e env) (λo U=>V7 #[w,w] A (T9 o f v_) Q E U) E s):V7 #[w,w] A (eval (.Attribute e f pos) env) Q E s:=
 Attribute_any_ h (by rw[arm_eval_Attribute,O])
end
inductive AcT (K:PySem.W.Frag)(f:Str)(Q:VK)(x:V)(H1:Hp):Prop
 |mk (a:_)(C:_)(dx:_)(fs:_)(v:_)(_:x= .ref a)(_:H1 a=u_ (.ins C dx fs))(_:Cls K C)(_:QL K C f)(_:fs.lookup f=u_ v)(_:Q v H1)
nonrec def Ab3 (K:o0)(ta:TE)(f:Str):TE:=λσ H Q=>ta σ H λx H1=>AcT K f Q x H1
inductive AcV (K:PySem.W.Frag)(f:Str)(D:mU)(σ:St)(y:V)(x:V)(H2:Hp):Prop
 |mk (a:_)(C:_)(dx:_)(fs:_)(_:x= .ref a)(_:H2 a=u_ (.ins C dx fs))(_:Cls K C)(_:QL K C f)(_:↑fs<1000)(_:D.nx σ (upd H2 a (.ins C dx (iF f y fs))))
nonrec def AdA (K:o0)(ta tv:TE)(f:Str):TS:=λD σ H=>tv σ H λy H1=>ta σ H1 λx H2=>AcV K f D σ y x H2
nonrec def Adp (X:Cx)(op:GT)(rd:V->V->Hp->VK->Prop):Prop:=
 ∀(oq:oj (o3×Obj)) (s:o7) (σ:St) (H:Hp) (x y:V) (u v:o6) (Q:VK),#[I]->ik x u->ik y v->rd x y H Q->V7 #[X,X] X.A (tQ op u v) (EP X oq σ Q) X.xe s
inductive L4 (K:PySem.W.Frag)(tv:TE)(rd:V->V->Hp->VK->Prop)(f:Str)(D:mU)(σ:St)(x:V)(H1:Hp):Prop
 |mk (a:_)(C:_)(dx:_)(fs:_)(v:_)(_:x= .ref a)(_:H1 a=u_ (.ins C dx fs))(_:Cls K C)(_:QL K C f)(_:fs.lookup f=u_ v)(_:tv σ H1 λy H2=>rd v y H2 λz H3=>∃dx' fs',H3 a=u_ (.ins C dx' fs')/\↑fs'<1000/\D.nx σ (upd H3 a (.ins C dx' (iF f z fs'))))
nonrec def NU (K:o0)(ta tv:TE)(rd:V->V->Hp->VK->Prop)(f:Str):TS:=λD σ H=>ta σ H λx H1=>L4 K tv rd f D σ x H1
section
variable {X:Cx}{o e value:Expr}{f:Str}{pos pos' tpos:Pos}{ta tv:TE}
def qO (O:PE X e ta)(U:GE e f X.env (eval e X.env)=eval e X.env):PE X (.Attribute e f pos) (Ab3 X.K ta f):=by
 exists 2,Q,I,h;refine PD U (thn (O oq s σ H _ I h) λu s1 zq=>?_);erw[zq,x,H1,Z,rx,a,C,dx,fs,v,ex,ea,c,n,l,q];subst ex;obtain rfl:u=Ve a:=rx;exact WR Z ea c n l λu' s2 I2 ru=>⟨v,H1,I2,ru,q⟩
def Qm (ha:PE X o ta)(O:PE X value tv)(U:hZ value (u_ (.Attribute o f pos')) pos.line X.env=pure V6):PS X (.Assign [.Attribute o f pos'] value pos) (AdA X.K ta tv f):=by
 exists 2,D,I,h;refine plainObj_wpAny_Assign_Attribute (thn (O oq s σ H _ I h) λu s1 ⟨y,H1,Z,ry,q⟩=>thn (ha oq s1 σ H1 _ Z q) λov s2 zq=>?_) U;erw[zq,x,H2,I2,rx,a,C,dx,fs,ex,ea,c,n,l,q2];subst ex;obtain rfl:ov=Ve a:=rx;exact kI I2 ea c n l ry λs3 I3=>⟨σ,_,I3,q2⟩
def Jk {Z:GT}{rd:V->V->Hp->VK->Prop}(ha:PE X o ta)(hv:PE X value tv)(O:Adp X Z rd):PS X (.AugAssign (.Attribute o f tpos) Z value pos) (NU X.K ta tv rd f):=by
 exists 2,D,I,h;refine wpAny_AugAssign_AttributeAny (thn (ha oq s σ H _ I h) λov s1 zq=>?_);erw[zq,x,H1,I1,rx,a,C,dx,fs,v,ex,ea,c,n,l,q];subst ex;obtain rfl:ov=Ve a:=rx;refine WR I1 ea c n l λu s2 I2 ru=>thn (hv oq s2 σ H1 _ I2 q) λw3 s3 ⟨y,H2,I3,ry,q3⟩=>thn (O oq s3 σ H2 v y u w3 _ I3 ru ry q3) λw4 s4 zq=>?_;erw[zq,z,H3,I4,rz,dx',fs',U,l',q4];exact kI I4 U c n l' rz λs5 I5=>⟨σ,_,I5,q4⟩
inductive AdL (x:V)(y:V)(H:Hp)(Q:VK):Prop
 |mk (i:_)(j:_)(_:x= .int i)(_:y= .int j)(_:Q (.int (i+j)) H)
def oK:Adp X .Add AdL:=by
 rintro oq s σ H x y u v Q I O U ⟨i,j,rfl,rfl,q⟩;obtain⟨t,rfl⟩:=(show∃t,u=gX i t from O)
 obtain⟨t',rfl⟩:=(show∃t',v=gX j t' from U)
 exact RV ⟨.int (i+j),H,I.tok _,⟨0⟩,q⟩
end
section
variable {X:Cx}{oq:oj (o3×Obj)}{σ:St}{H:Hp}{s:o7}{A:oh}{E:o6->o7->Prop}{Q:o6->o7->Prop}{c:o6}{b:Bool}
inductive BM (K:PySem.W.Frag)(H:Hp):V->Value->Prop where
 |non:BM K H .non (.type "NoneType")
 |bl (x:Bool):BM K H (.bl x) (.type "bool")
 |int (i:Int):BM K H (.int i) (.type "int")
 |str (x:Str):BM K H (.str x) (.type "str")
 |flt (x:UInt64):BM K H (.flt x) (.type "float")
 |lst {a:Addr}{xs:List V}(e:H a=u_ (.lst xs)):BM K H (.ref a) (.type "list")
 |frz {a:Addr}{o:Obj}{xs:List V}(e:H a=u_ (.frz o (.lst xs))):BM K H (.ref a) (.type "list")
 |tup {a:Addr}{xs:List V}(e:H a=u_ (.tup xs)):BM K H (.ref a) (.type "tuple")
 |dK {a:Addr}{kvs:List (Key×V)}(e:H a=u_ (.dK kvs)):BM K H (.ref a) (.type "dict")
 |dT {a:Addr}{kvs:List (List Key×V)}(e:H a=u_ (.dT kvs)):BM K H (.ref a) (.type "dict")
 |ins {a C dx:Addr}{fs:List (Str×V)}(e:H a=u_ (.ins C dx fs))(cl:Cls K C)(ha:PySem.W.findIn K (.ref C) "__class__"=u_ (u_ (.builtin "object.__class__")))
   (hn:PySem.W.specialIn K (.builtin "object.__class__") "__get__"=u_ (u_ (.builtin "getset_descriptor.__get__"))) (htk:PySem.W.takesIn K (.builtin "object.__class__")=u_ v_)
   (hm:PySem.W.mroIn K C (.type "object")=u_ v_):BM K H (.ref a) (.ref C)
def Ej {x:V}{t:o6}(I:#[I])(U:ik x u)(ty:BM X.K H x t)(e:PySem.W.kitOne X.K t c=u_ b)(h:∀tk,Q (.bool b) {s with toks:=tk}):
  V7 #[X,X] A (call (.builtin "isinstance") [u,c]) Q E s:=by
 cases ty with
 |non=>cases(show u=VF from U);exact vt PySem.W.kitx_none I.kIn VJ e (λz=>nomatch z) h
 |bl y=>cases(show u=GR y from U);exact vt PySem.W.kitx_bool I.kIn VJ e (λz=>nomatch z) h
 |int i=>obtain⟨t,q⟩:=(show∃t,u=gX i t from U);cases q;exact vt PySem.W.kitx_int I.kIn VJ e (λz=>nomatch z) h
 |str y=>obtain⟨t,q⟩:=(show∃t,u=Vu y t from U);cases q;exact vt PySem.W.kitx_str I.kIn VJ e (λz=>nomatch z) h
 |flt y=>obtain⟨t,q⟩:=(show∃t,u=t_ y t from U);cases q;exact vt PySem.W.kitx_float I.kIn VJ e (λz=>nomatch z) h
 | @lst a xs ea=>
  cases(show u=Ve a from U)
  obtain⟨_,_,n,_,h1⟩:=(show yf X.prog X.w H s.heap a (.lst xs) from I.hok a _ ea)
  exact vt PySem.W.kitx_list I.kIn [_:h1:1] e (λz=>nomatch z) h
 | @frz a ob xs ea=>
  cases(show u=Ve a from U)
  obtain⟨_,_,_,n,_,h1⟩:=(show yf X.prog X.w H s.heap a (.frz ob (.lst xs)) from I.hok a _ ea)
  exact vt PySem.W.kitx_list I.kIn [_:h1:1] e (λz=>nomatch z) h
 | @tup a xs ea=>
  cases(show u=Ve a from U)
  obtain⟨_,_,_,p⟩:=(show yf X.prog X.w H s.heap a (.tup xs) from I.hok a _ ea)
  erw[p,o,h1,h2,_];exact vt PySem.W.kitx_tuple I.kIn [o:h1:h2] e (λz=>nomatch z) h
 | @dK a kvs ea=>
  cases(show u=Ve a from U)
  obtain⟨_,_,vs,_,p⟩:=(show yf X.prog X.w H s.heap a (.dK kvs) from I.hok a _ ea)
  erw[p,o,es,ep,h1,h2,_];exact vt PySem.W.kitx_dict I.kIn [o:h1:h2.1] e (λz=>nomatch z) h
 | @dT a kvs ea=>
  cases(show u=Ve a from U)
  obtain⟨_,_,xs,_,o,es,ep,h1,h2,_⟩:=(show yf X.prog X.w H s.heap a (.dT kvs) from I.hok a _ ea)
  exact vt PySem.W.kitx_dict I.kIn [o:h1:h2.1] e (λz=>nomatch z) h
 | @ins a C dx fs ea cl ha hn htk hm=>
  cases(show u=Ve a from U)
  erw[KW I.hok ea,mA,O,_];erw[O.look,od,J,_];exact vt (PySem.W.kitx_own (cl.get _) cl.hd ha hn htk hm) I.kIn J e (λz=>nomatch z) h
end
structure mr (k:Nat)(A:oh):Prop where
 hd:A.handled=U_
 dp:A.depth+3*k+5<recursionLimit
 un:A.units+16*k+200<Vg
variable {j:Nat}
def mr.mono {k:Nat}(r:mr k A)(h:j<=k):mr j A:=⟨r.hd,by have:=r.dp;omega,by have:=r.un;omega⟩
def mr.deeper {k:Nat}(r:mr (k+1) A)(env:Env):mr k (A.deeper env):=
 ⟨r.hd,by have:=r.dp;show A.depth+1+3*k+5<_;omega,by have:=r.un;show A.units+3+16*k+200<_;omega⟩
def Ce {O:oj (Str×o6)}:(A.under (.builtin "type.__call__" [.ref C::us:O])).depth=A.depth+1:=by
 first|rfl|simp[tK,Code.weight,Code.isCreation,Code.isGuard,Code.isCaller,rQ,HX,guardIds]
def Cd {O:oj (Str×o6)}:(A.under (.builtin "type.__call__" [.ref C::us:O])).units=A.units+1:=by
 first|rfl|simp[tK,Code.cUnits,rQ,HX]
def mr.make {k:Nat}(r:mr (k+1) A)(C:o3)(us:oj o6)(O:oj (Str×o6)):mr k (A.under (.builtin "type.__call__" [.ref C::us:O])):=
 ⟨r.hd,by have:=r.dp;rw[Ce];omega,by have:=r.un;rw[Cd];omega⟩
def mr.depth {k:Nat}(r:mr k A):A.depth<recursionLimit:=by have:=r.dp;omega
def mr.units {k:Nat}(r:mr k A):A.units+64<cLine:=by have:=r.un;omega
def mr.units0 {k:Nat}(r:mr k A):A.units<cLine:=by have:=r.un;omega
nonrec def Sg:TA:=λ_ H Q=>Q [] H
nonrec def Nf (ta:TE)(tr:TA):TA:=λσ H Q=>ta σ H λx H1=>tr σ H1 λxs H2=>Q (x::xs) H2
section
variable {X:Cx}{e:Expr}{es:oj Expr}{te:TE}{t:TA}{pos:Pos}
def qd:PA X [] Sg:=λ_ _ _ _ H Q I h=>TH ⟨[],H,I,.nil,h⟩
def qb (ha:PE X e te)(O:PA X es t)(U:Vc (e::es) X.env=(V6,eval e X.env)::Vc es X.env:=by rfl):PA X (e::es) (Nf te t):=by
 intro pos oq s σ H Q I h;rw[U];show V7 _ _ (spliced ((V6,eval e X.env)::Vm pos (Vc es X.env))) _ _ s;refine tU (thn (ha oq s σ H _ I h) λu s1 zq=>?_);erw[zq,x,H1,Z,r1,q1];exact thn (O pos oq s1 σ H1 _ Z q1) λus s2 ⟨xs,H2,I2,r2,q2⟩=>⟨x::xs,H2,I2,.cons r1 r2,q2⟩
nonrec def Adq (t:TA):TE:=λσ H Q=>t σ H λxs H1=>↑xs<=V9/\∀p,H1 p=U_->Q (.ref p) (upd H1 p (.tup xs))
nonrec def Adu (t:TA):TE:=λσ H Q=>t σ H λxs H1=>↑xs<=V9/\∀p,H1 p=U_->Q (.ref p) (upd H1 p (.lst xs))
def qB {x1}(h:PA X es t):PE X (.Tuple es x1 pos) (Adq t):=by
 exists 2,Q,I,U;refine wpAny_Tuple_spliced (thn (h pos oq s σ H _ I U) λus s1 ⟨xs,H1,O,r,z,q⟩=>⟨by rwa[<-↑r],?_⟩)
 have Z:H1 #[0,s1]=none:=O.hok.fresh (uq _);exists .ref #[0,s1],upd H1 #[0,s1] (.tup xs),O.laid (t':=s1.toks) (λb u e=>uh _ e) (uq _) ?_,1,q _ Z;exact⟨z,us,r,⟨_,uJ _ rfl,1,0⟩⟩
def Q9 (h:PA X es t):PE X (.List es pos) (Adu t):=by
 exists 2,Q,I,U;refine wpAny_List_spliced (thn (h pos oq s σ H _ I U) λus s1 ⟨xs,H1,O,r,z,q⟩=>⟨by rwa[<-↑r],?_⟩)
 have Z:H1 #[0,s1]=none:=O.hok.fresh (uq _);exists .ref #[0,s1],upd H1 #[0,s1] (.lst xs),O.laid (t':=s1.toks) (λb u e=>uh _ e) (uq _) ?_,1,q _ Z;exact⟨z,us,(0),r,uJ _ rfl⟩
end
noncomputable abbrev Sp:=oj V->Hp->VK->XK->Prop
noncomputable abbrev CXT:=oj Env->Hp->o7->XK->o6->o7->Prop
structure Sd (P:o9)(w:og)(K:o0)(mg:Str->om o6)(base:o8)(A:oh)(outer:oj Env)(s:o7)(H:Hp):Prop where
 frames:A.frames=u_ outer
 mod:Mod K mg base
 bs:∀b o,base.get? b=u_ o->s.heap.get? b=u_ o/\H b=U_
 bsz:base.objs.size<=#[0,s]
 funs:s.heap.FunFrames base outer
 frf:∀b∈frs outer,H b=U_
 hok:HOk P w H s.heap
 bare:VV s.gens
nonrec def CE (outer:oj Env)(P:o9)(w:og)(H:Hp)(s:o7)(Q:VK)(u:o6)(s':o7):Prop:=
 ∃v H',s'.os=s.os/\VV s'.gens/\0<s'.toks/\Un (frs outer) [] H H' s.heap s'.heap/\HOk P w H' s'.heap/\ik v u/\Q v H'
nonrec def CR (CX:CXT)(outer:oj Env)(P:o9)(w:og)(H:Hp)(s:o7)(Q:VK)(E:XK)(r:G7)(s':o7):Prop:=
 match r with
 | .ok (.ret u)=>CE outer P w H s Q u s'
 | .ok _=>False
 | .error e=>CX outer H s E e s'
structure FnOk (P:o9)(w:og)(K:o0)(mg:Str->om o6)(base:o8)(CX:CXT)(k:Nat)(f:o3)(fd:V8)(ps:oj Str)(sp:Sp):Prop where
 len:∀vs H Q E,sp vs H Q E->↑vs=↑ps
 run:∀(A:oh) (outer:oj Env) (s:o7) (H:Hp) (args:Args) (us:oj o6) (vs:oj V) (Q:VK) (E:XK),mr k A->Sd P w K mg base A outer s H->GM s fd args (ps.zip us)->im vs us->sp vs H Q E->(0<s.toks∨∃x r,ps=x::r/\fd.scope.names.lookup x=u_ .local)->
  VA (Vk P w) A (.call (.ref f) args) (CR CX outer P w H s Q E) s
variable {mg:Str->om o6}
def Sd.make {P:o9}{base:o8}{outer:oj Env}(e:Sd P w K mg base A outer s H)(C:o3)(us:oj o6)(O:oj (Str×o6)):
  Sd P w K mg base (A.under (.builtin "type.__call__" [.ref C::us:O])) outer s H:=⟨by first|exact e.frames|(simpa [tK,Code.envs,HX,pushEnvs] using e.frames),e.mod,e.bs,e.bsz,e.funs,e.frf,e.hok,e.bare⟩
section
variable {X:Cx}{oq:oj (o3×Obj)}{σ:St}{H:Hp}{s s':o7}
def Inv.env0 (I:#[I]):Sd X.prog X.w X.K X.mg X.base X.A X.stack s H:=
 ⟨I.ok.frames,I.ok.mod,I.bs,uT I.ok.bsz I.sz,I.stack,I.stkFree,I.hok,I.bare⟩
variable {Q:VK}
def Inv.after (I:#[I])(h:CE X.stack X.prog X.w H s Q u s'):EP X oq σ Q u s':=by
 erw[h,v,H',os,bare,htk,un,hok,r,q];erw[s',U,g,d,t,O];obtain rfl:O=s.os:=os;exact⟨v,H',I.call (h':=U) (g':=g) (d':=d) (t':=t) (ch:= []) un hok bare (λb z=>A7 z (by simp)),r,q⟩
end
nonrec def Ab7 (sp:Sp)(dvs:oj V)(E:XK)(t:TA):TE:=λσ H Q=>t σ H λvs H1=>sp (vs++dvs) H1 Q E
inductive AbB (C:Addr)(m:Str)(sp:Sp)(dvs:List V)(E:XK)(t:TA)(σ:St)(Q:VK)(x:V)(H1:Hp):Prop
 |mk (a:_)(dx:_)(fs:_)(_:x= .ref a)(_:H1 a=u_ (.ins C dx fs))(_:fs.lookup m=U_)(_:t σ H1 λvs H2=>sp (x::(vs++dvs)) H2 Q E)
nonrec def SL (C:o3)(m:Str)(sp:Sp)(dvs:oj V)(E:XK)(ta:TE)(t:TA):TE:=λσ H Q=>ta σ H λx H1=>AbB C m sp dvs E t σ Q x H1
nonrec def Ab2 (C:o3)(sp:Sp)(dvs:oj V)(E:XK)(t:TA):TE:=λσ H Q=>t σ H λvs H1=>∀x dx,H1 x=U_->H1 dx=U_->dx≠x->
 sp (.ref x::(vs++dvs)) (upd (upd H1 dx (.own x)) x (.ins C dx [])) (λv H2=>v= .non/\Q (.ref x) H2) E
nonrec def zU (K:o0)(fd:V8)(ps:oj Str)(ds:oj o6):Prop:=
 ∀(s:o7) (us:oj o6),K.In s.heap->↑(us++ds)=↑ps->GM s fd [us:[]] (ps.zip (us++ds))
def zU.all {fd:V8}{ps:oj Str}(h:∀us:oj o6,↑us=↑ps->Gb fd [us:[]]=pure (ps.zip us)):zU K fd ps []:=λs us _ O=>by
 rw[vg] at O⊢;exact .of_eq (h us O)
nonrec def XH (CX:CXT)(X:Cx)(E:XK):Prop:=∀(oq:oj (o3×Obj)) (σ:St) (H:Hp) (s:o7) (e:o6) (s':o7),#[I]->CX X.stack H s E e s'->X.xe e s'
section
variable {X:Cx}{CX:CXT}{k:Nat}{f C:o3}{fd:V8}{ps:oj Str}{sp:Sp}{dvs:oj V}{ds:oj o6}{E:XK}{x m:Str}{p pos apos:Pos}{e o:Expr}{es:oj Expr}{ta:TE}{t:TA}
def AH {oq:oj (o3×Obj)}{σ:St}{H:Hp}{s:o7}{Q:VK}{us:oj o6}{vs:oj V}(F:FnOk X.prog X.w X.K X.mg X.base CX k f fd ps sp)(Z:mr k X.A)(hb:zU X.K fd ps ds)(hd:im dvs ds)(hx:XH CX X E)
  (I:#[I]) (r:im vs us) (h:sp (vs++dvs) H Q E):V7 #[X,X] X.A (call (.ref f) us) (EP X oq σ Q) X.xe s:=by
 have U:im (vs++dvs) (us++ds):=r.append hd;have hl:↑(us++ds)=↑ps:=by rw[<-↑U];exact F.len _ _ _ _ h
 refine Hw (UY (F.run X.A X.stack s H [us:[]] (us++ds) (vs++dvs) Q E Z I.env0 (hb s us I.kIn hl) U h (.inl I.tk)) λr s' O=>?_);cases r with
 |error e=>exact hx oq σ H s e s' I O
 |ok fl=>
  cases fl with
  |ret u=>exact I.after O
  |next=>exact VB O
  |brk=>exact VB O
  |cont=>exact VB O
def qv (F:FnOk X.prog X.w X.K X.mg X.base CX k f fd ps sp)(hr:mr k X.A)(hg:Gl X x)(hm:X.mg x=u_ (.ref f))(hk:PySem.W.keepIn X.K (.ref f)=v_)(hb:zU X.K fd ps ds)(hd:im dvs ds)(hx:XH CX X E)
  (ha:PA X (e::es) t) (O:(x==("__debug__":Str))=V6) (he:Vc (e::es) X.env=(V6,eval e X.env)::Vc es X.env) (U:(Vm pos (Vc es X.env)).any (·.1)=V6):
  PE X (.Call (.Name x p) (e::es) [] pos) (Ab7 sp dvs E t):=by
 exists 2,Q,I,h;refine UK (kT I hg hm ?_ O);refine UL (h₀:=X.base) I.ok.mod.kin hk (thn (ha pos oq s σ H _ I h) λus s1 ⟨vs,H1,Z,r,q⟩=>[Z.kIn:?_]) he U;exact AH F hr hb hd hx Z r q
def Qf {pl:Sem Bool}(he:PE X o ta)(c:Cls X.K C)(hm:AbO X.K C m f)(F:FnOk X.prog X.w X.K X.mg X.base CX k f fd ps sp)(hr:mr k X.A)(hb:zU X.K fd ps ds)(hd:im dvs ds)(hx:XH CX X E)(ha:PA X (e::es) t)
  (O:Vc (e::es) X.env=(V6,eval e X.env)::Vc es X.env) (U:(Vm pos (Vc es X.env)).any (·.1)=V6)
  (ht:eval (.Call (.Attribute o m apos) (e::es) [] pos) X.env=(do
   let ov<-eval o X.env
   GX apos.atName
   let(f,first)<-gV [ov] (HL ov m pl)
   Tg pos f first (Vm pos (Vc (e::es) X.env)) (GD pos (GB [] X.env)))):
  PE X (.Call (.Attribute o m apos) (e::es) [] pos) (SL C m sp dvs E ta t):=by
 exists 2,Q,I,h;refine PySem.W.methodCall_KW (pl:=pl) (thn (he oq s σ H _ I h) λu s1 zq=>?_) ht;erw[zq,x,H1,Z,rx,a,dx,fs,ex,ea,l,q];subst ex;obtain rfl:u=Ve a:=rx;refine kg Z ea c hm l ?_;refine UL (first:= [.ref a]) (h₀:=X.base) I.ok.mod.kin hm.kp (thn (ha pos oq s1 σ H1 _ Z q) λus s2 ⟨vs,H2,I2,r,q2⟩=>[I2.kIn:?_]) O U;exact AH (us:= .ref a::us) (vs:= .ref a::vs) F hr hb hd hx I2 (.cons rfl r) q2
def QR {pl:Sem Bool}(U:PE X o ta)(c:Cls X.K C)(hm:AbO X.K C m f)(F:FnOk X.prog X.w X.K X.mg X.base CX k f fd ps sp)(Z:mr k X.A)(hb:zU X.K fd ps ds)(hd:im dvs ds)(hx:XH CX X E)
  (ht:eval (.Call (.Attribute o m apos) [] [] pos) X.env=(do
   let ov<-eval o X.env
   GX apos.atName
   let(f,first)<-gV [ov] (HL ov m pl)
   Tg pos f first (Vm pos (Vc [] X.env)) (GD pos (GB [] X.env)))):
  PE X (.Call (.Attribute o m apos) [] [] pos) (SL C m sp dvs E ta Sg):=by
 exists 2,Q,I,h;refine PySem.W.methodCall_KW (pl:=pl) (thn (U oq s σ H _ I h) λu s1 zq=>?_) ht;erw[zq,x,H1,O,rx,a,dx,fs,ex,ea,l,q];subst ex;obtain rfl:u=Ve a:=rx;refine kg O ea c hm l ?_;exact PySem.W.callWith_K0 (first:= [.ref a]) O.kIn hm.kp (AH (us:= [.ref a]) (vs:= [.ref a]) F Z hb hd hx O (.cons rfl .nil) q)
structure Mk (K:o0)(C f:o3):Prop where
 makes:PySem.W.makesIn K C=v_
 init:PySem.W.findIn K (.ref C) "__init__"=u_ (u_ (.ref f))
 fn:PySem.W.isFn K (.ref f)=v_
 kp:PySem.W.keepIn K (.ref C)=v_
def IU {oq:oj (o3×Obj)}{σ:St}{H:Hp}{s:o7}{Q:VK}{us:oj o6}{vs:oj V}(M:Mk X.K C f)(F:FnOk X.prog X.w X.K X.mg X.base CX k f fd ps sp)(hr:mr (k+1) X.A)(hb:zU X.K fd ps ds)(hd:im dvs ds)
  (hx:XH CX X E) (I:#[I]) (r:im vs us)
  (h:∀x dx,H x=U_->H dx=U_->dx≠x->sp (.ref x::(vs++dvs)) (upd (upd H dx (.own x)) x (.ins C dx [])) (λv H2=>v= .non/\Q (.ref x) H2) E):
  V7 #[X,X] X.A (call (.ref C) us) (EP X oq σ Q) X.xe s:=by
 have Z:=h (#[0,s]+1) #[0,s] (I.hok.fresh (Gm _)) (I.hok.fresh (uq _)) (uR (UZ _));have U:=Inv.made (C:=C) I;have r2:im (V.ref (#[0,s]+1)::(vs++dvs)) (Ve (#[0,s]+1)::(us++ds)):= .cons rfl (r.append hd);have hl:↑(Ve (#[0,s]+1)::us++ds)=↑ps:=by
  have e:=↑r2;rw[F.len _ _ _ _ Z] at e;exact e.symm
 refine Hw (Lz (f:=f) I.kIn M.makes M.init (beq_iff_eq.mp M.fn) (UY (F.run _ X.stack _ _ [Ve (#[0,s]+1)::us:[]] (Ve (#[0,s]+1)::(us++ds)) _ _ E (hr.make C us [])
  (U.env0.make C us []) (hb _ (Ve (#[0,s]+1)::us) U.kIn hl) r2 Z (.inl U.tk)) λr s' O=>?_))
 cases r with
 |error e=>exact hx oq σ _ _ e s' U O
 |ok fl=>
  cases fl with
  |ret u=>
   erw[U.after O,v,H',I3,rv,ev,q3];subst ev;exact[rv:⟨V.ref (#[0,s]+1),H',I3,1,q3⟩]
  |next=>exact VB O
  |brk=>exact VB O
  |cont=>exact VB O
def wn (M:Mk X.K C f)(F:FnOk X.prog X.w X.K X.mg X.base CX k f fd ps sp)(hr:mr (k+1) X.A)(hg:Gl X x)(hm:X.mg x=u_ (.ref C))(hb:zU X.K fd ps ds)(hd:im dvs ds)(hx:XH CX X E)
  (ha:PA X (e::es) t) (O:(x==("__debug__":Str))=V6) (he:Vc (e::es) X.env=(V6,eval e X.env)::Vc es X.env) (U:(Vm pos (Vc es X.env)).any (·.1)=V6):
  PE X (.Call (.Name x p) (e::es) [] pos) (Ab2 C sp dvs E t):=by
 exists 2,Q,I,h;refine UK (kT I hg hm ?_ O);refine UL (h₀:=X.base) I.ok.mod.kin M.kp (thn (ha pos oq s σ H _ I h) λus s1 ⟨vs,H1,Z,r,q⟩=>[Z.kIn:?_]) he U;exact IU M F hr hb hd hx Z r q
end
structure qw (N P:oj Str)(sc:Vr):Prop where
 kind:sc.kind= .function
 co:sc.isCoroutine=V6
 gen:sc.isGenerator=V6
 nd:N.Nodup
 pre:N.take ↑P=P
 par:∀x∈P,sc.names.lookup x=u_ .local∨sc.names.lookup x=u_ .cell
 nofree:∀y∈sc.names,y.2≠ .free
def pW {kindOf:Str->om VN}{x:Str}:∀{binds:oj (Str×o6)}{m:Str->om o6},(∀v,(x,v)∉binds)->VP kindOf binds m x=m x
 | [],_,_=>rfl
 |(n,v)::r,m,h=>by
  unfold VP;rw[pW λw O=>h w (ui _ O)];split
  ·have:x≠n:=by rintro rfl;exact h v uj
   simp[this]
  ·rfl
def pY {kindOf:Str->om VN}{x:Str}:∀{binds:oj (Str×o6)}{m:Str->om o6},(∀v,(x,v)∉binds)->VL kindOf binds m x=m x
 | [],_,_=>rfl
 |(n,v)::r,m,h=>by
  unfold VL;rw[pY λw O=>h w (ui _ O)];split
  ·rfl
  ·have:x≠n:=by rintro rfl;exact h v uj
   simp[this]
def pX {kindOf:Str->om VN}{x:Str}{v:o6}:∀{P:oj Str}{vs:oj o6}{i:Nat}{m:Str->om o6},P.Nodup->P[i]? =u_ x->vs[i]? =u_ v->kindOf x=u_ .local->
  VP kindOf (P.zip vs) m x=u_ v
 | [],_,_,_,_,h,_,_=>by simp at h
 |_::_,[],_,_,_,_,h,_=>by simp at h
 |p::P,w::vs,0,m,nd,h1,h2,hk=>by
  simp at h1 h2;subst h1;subst h2;show VP kindOf ((p,w)::P.zip vs) m p=_;unfold VP;rw[pW λv O=>(List.nodup_cons.mp nd).1 (Tp O).1,A3 hk];simp
 |p::P,w::vs,i+1,m,nd,h1,h2,hk=>by
  show VP kindOf ((p,w)::P.zip vs) m x=_;unfold VP;exact pX (i:=i) (List.nodup_cons.mp nd).2 (by simpa using h1) (by simpa using h2) hk
def pZ {kindOf:Str->om VN}{x:Str}{v:o6}:∀{P:oj Str}{vs:oj o6}{i:Nat}{m:Str->om o6},P.Nodup->P[i]? =u_ x->vs[i]? =u_ v->kindOf x≠u_ .local->
  VL kindOf (P.zip vs) m x=u_ v
 | [],_,_,_,_,h,_,_=>by simp at h
 |_::_,[],_,_,_,_,h,_=>by simp at h
 |p::P,w::vs,0,m,nd,h1,h2,hk=>by
  simp at h1 h2;subst h1;subst h2;show VL kindOf ((p,w)::P.zip vs) m p=_;unfold VL;rw[pY λv O=>(List.nodup_cons.mp nd).1 (Tp O).1,A2 hk];simp
 |p::P,w::vs,i+1,m,nd,h1,h2,hk=>by
  show VL kindOf ((p,w)::P.zip vs) m x=_;unfold VL;exact pZ (i:=i) (List.nodup_cons.mp nd).2 (by simpa using h1) (by simpa using h2) hk
nonrec def KF (N:oj Str)(vs:oj V):St:=vs.map u_++GN (↑N-↑vs) U_
nonrec def cxOf (CX:CXT)(P:o9)(w:og)(K:o0)(mg:Str->om o6)(base:o8)(N:oj Str)(qual:Str)(scope:Vr)(f:o3)(cd:o6)(A:oh)(outer:oj Env)(s:o7)(H:Hp)(E:XK):Cx where
 prog:=P
 w:=w
 K:=K
 mg:=mg
 base:=base
 A:=A.deeper (Vd qual scope #[0,s] f cd)
 N:=N
 s₀:=s
 H₀:=H
 env:=Vd qual scope #[0,s] f cd
 outer:=outer
 stack:=Vd qual scope #[0,s] f cd::outer
 ex:= []
 calm:=v_
 fn:=λ_=>v_
 pn:= []
 xe:=λe s'=>V7 (Vk P w) (A.deeper (Vd qual scope #[0,s] f cd)) (tN (Vd qual scope #[0,s] f cd) e) (λ_ s''=>CX outer H s E e s'') (λe' s''=>CX outer H s E e' s'') s'
variable {n:Nat}{x:Str}
def BH {sc:Vr}(h:sc.names.lookup x=u_ .cell):∃c,(GQ n sc.names []).lookup x=u_ c:=by
 have q:=PySem.W.cellsFrom_some sc.names n [] (.inl h);exact Option.isSome_iff_exists.mp q
def Eo {CX:CXT}{P:o9}{w:og}{K:o0}{mg:Str->om o6}{base:o8}{N ps:oj Str}{qual:Str}{scope:Vr}{f:o3}{cd:o6}{A:oh}{outer:oj Env}{s s1:o7}{H:Hp}{E:XK}{us:oj o6}{vs:oj V}
  (S:qw N ps scope) (hd:A.handled=U_) (O:Sd P w K mg base A outer s H) (hl:↑vs=↑ps) (r:im vs us)
  (x:hV s #[0,s] (VP (Vd qual scope #[0,s] f cd).kindOf (ps.zip us) λ_=>U_) (GQ (#[0,s]+1) scope.names []) (VL (Vd qual scope #[0,s] f cd).kindOf (ps.zip us) λ_=>U_) s1) (ac:0<s1.toks):
  Inv (cxOf CX P w K mg base N qual scope f cd A outer s H E) [] (KF N vs) H s1:=by
 have ad:↑ps<=↑N:=by have:=A8 g_ S.pre;rw[vM] at this;omega
 erw[x.done,h1,tk,rfl,hk];have U:∀b:o3,b∉(cxOf CX P w K mg base N qual scope f cd A outer s H E).ex:=λb z=>A7 (show b∈([]:oj o3) from z) (by simp)
 exists ⟨O.mod,S.kind,1,1,uq _,λy z c h1 h2=>?_,λy Z=>?_,λy c _ h=>?_,λ_=>hd,Around.frames_deeper O.frames,.inr [1:1],λb z=>A7 z (U b),O.bs,O.bsz,λb _ _=>U b,λb z=>A7 z (U b),O.funs,O.frf⟩,1,O.bare,Un.kept hk,[_:x.toInCall.ns:λi y v h1 h2 h3=>?_],λy c h=>[_:x.cell y c h],O.hok.fresh (uq _),λy c h=>?_,λp hp=>A7 (show p∈([]:oj (o3×Obj)) from hp) (by simp),O.hok.kept hk,?_,ac
 ·exact name_of_addr x.apart (vF h1) (vF h2)
 ·have Z:scope.names.lookup y=u_ .cell∨scope.names.lookup y=u_ .free:=Z;rcases Z with Z|Z
  ·exact BH Z
  ·exact A7 rfl (S.nofree _ (vF Z))
 ·exact UE (x.above y c (vF h))
 ·have hi:i<↑vs:=by
   unfold KF at h2;by_cases hi:i<↑vs
   ·exact hi
   ·rw[Uw (by simpa using hi)] at h2
    rw[Rt] at h2;split at h2<;>cases h2
  have ha:vs[i]? =u_ v:=by
   unfold KF at h2;rw[UA (by simpa using hi),uM] at h2
   cases e:vs[i]? with
   |none=>rw[e] at h2;cases h2
   |some a=>rw[e] at h2;cases h2;rfl
  erw[r.get ha,u,hu,rv];have hp:ps[i]? =u_ y:=by
   rwa[<-S.pre,List.getElem?_take_of_lt ()]
  have aa:ps.Nodup:=by rw[<-S.pre];exact S.nd.sublist (RF _ _)
  exists u,rv;rcases S.par y (vj hp) with k|k
  ·exact .inl [k:pX aa hp hu k]
  ·erw[BH (n:=#[0,s]+1) k,c,e];refine .inr ⟨.inl k,c,e,?_⟩;have q:=x.cell y c e;rw[pZ aa hp hu (by show scope.names.lookup y≠_;rw[k];decide)] at q
   exact q
 ·exact O.hok.fresh (UE (x.above y c (vF h)))
 ·unfold KF;show _=↑N;rw[uB,ud,Fc];omega
def Aq {M:Gz}{A:oh}{E:o6->o7->Prop}{s₀ s:o7}{m Z:Str->om o6}{env:Env}(f:Str×o6->PUnit->Sem (ForInStep PUnit))(hf:∀n v u,f (n,v) u=(do HJ env n v;pure (.yield ⟨⟩)))(O:env.scope.kind= .function)
  (n:Str) (v:o6) (r:oj (Str×o6)) (Q:PUnit->o7->Prop) (x:hV s₀ env.locals m env.cells Z s) (hl:env.kindOf n=u_ .local)
  (aa:∀x∈r,env.kindOf x.1=u_ .local∨(env.kindOf x.1=u_ .cell/\(env.cells.lookup x.1).isSome=v_))
  (h:∀s',hV s₀ env.locals (VP env.kindOf ((n,v)::r) m) env.cells (VL env.kindOf ((n,v)::r) Z) s'->0<s'.toks->Q ⟨⟩ s'):V7 M A (VT ((n,v)::r) ⟨⟩ f) Q E s:=by
 rw[Uo,hf];refine A4 (A4 (rO hl x.toInCall.ns (λh' ac U=>Vb ?_) (by rw[O];rfl)))
 have x1:hV s₀ env.locals (λy=>if y=n then u_ v else m y) env.cells Z {s with heap:=h',toks:=s.toks+1}:=by
  exists ⟨?_,ac,λb o e=>?_,x.toInCall.fresh⟩,λk c hc=>?_,x.apart,x.above
  ·erw[x.toInCall.same,h₁,tk,rfl];exact[h':0]
  ·have:=x.toInCall.keep b o e;exact U.extBut b o (uR (Vn (uK e) x.toInCall.fresh)) (x.toInCall.keep b o e)
  ·exact(x.cell k c hc).sameBut U (U6 (x.above k c (mem_of_lookup hc)))
 refine uZ (n:=1) (tP (uP _)) (wpAny_bindParams f hf O r _ _ _ _ x1 aa λs' y h1=>h s' ?_ h1);unfold VP VL;rw[A3 hl,A3 hl];exact y
def DW {M:Gz}{A:oh}{E:o6->o7->Prop}{s:o7}{scope:Vr}{globals:o3}{binds:oj (Str×o6)}{qual:Str}{func:om o3}{O:o6}{builtins:o3}{Q:Env->o7->Prop}
  (Z:scope.kind= .function)
  (aa:∀x∈binds,scope.names.lookup x.1=u_ .local∨(scope.names.lookup x.1=u_ .cell/\((GQ (#[0,s]+1) scope.names []).lookup x.1).isSome=v_))
  (htk:0<s.toks∨∃n v r,binds=(n,v)::r/\scope.names.lookup n=u_ .local)
  (hq:∀en,en=newEnv scope #[0,s] globals (GQ (#[0,s]+1) scope.names []) qual func O U_ builtins->
   ∀s',hV s en.locals (VP en.kindOf binds λ_=>U_) en.cells (VL en.kindOf binds λ_=>U_) s'->0<s'.toks->Q en s'):
  V7 M A (T8 scope globals [] binds qual func O U_ builtins) Q E s:=by
 rcases htk with htk|⟨n,v,r,rfl,hl⟩
 ·exact uZ (n:=1) htk (wpAny_newFunctionEnv_cells Z aa λenv he s' x h1=>hq env he s' x h1)
 ·simp![T8,vK,UM,if_false];refine A4 (rG ?_);refine A4 (wpAny_layCells _ (λname kind cells=>by cases ac:kind==gU<;>simp[ac]) _ _ _ _ ?_)
  have U:=cellsFrom_ok scope.names (s.heap.push {cls:= .type "frame",data:= .dict #[]}) (#[0,s]+1) [] [λ_ _ hm=>(nomatch hm):rH] (by rw[vf];exact uq _);rw[vf] at U;rw[show({s with heap:=s.heap.push {cls:= .type "frame",data:= .dict #[]}}:o7).heap.objs.size=#[0,s]+1 from vf ..]
  exact A4 (Aq (s₀:=s) (env:=newEnv scope #[0,s] globals (GQ (#[0,s]+1) scope.names []) qual func O U_ builtins)
   _ (λ_ _ _=>rfl) Z n v r _
   ⟨⟨⟨_,_,by rfl⟩,(Heap.Ns.new s.heap (.type "frame")).keeps (RI _ _),λb o e=>RI _ _ b o (uh _ e),uq _⟩,
    λm c hc=>(U.empty m c (mem_of_lookup hc)).1,U.apart,λn c hm=>(U.empty n c hm).2⟩
   hl (λy hy=>aa y (ui _ hy)) λs' x h1=>Vb (hq _ rfl s' x h1))
def Abb {CX:CXT}{P:o9}{w:og}{K:o0}{mg:Str->om o6}{base:o8}{k:Nat}{f:o3}{name qual:Str}{O:Arguments}{U:oj Stmt}{scope:Vr}{dV kV doc pm cdv ct oc:o6}{an od:om o3}
  {osl:Array (om o6)}{N ps:oj Str}{sp:Sp} (lk:K.lookup f=u_ ⟨oc,od,.func (PySem.W.fnOf name qual O U scope dV kV doc pm an cdv ct),osl⟩) (ae:PySem.W.codeIn K cdv qual=v_) (S:qw N ps scope)
  (len:∀vs H Q E,sp vs H Q E->↑vs=↑ps)
  (Z:∀(A:oh) (outer:oj Env) (s:o7) (H:Hp) (vs:oj V) (Q:VK) (E:XK),mr k (A.deeper (Vd qual scope #[0,s] f cdv))->sp vs H Q E->
   ∃t,PSs (cxOf CX P w K mg base N qual scope f cdv A outer s H E) U t/\t {nx:=λ_ H'=>Q .non H',rt:=Q} (KF N vs) H):
  FnOk P w K mg base CX (k+1) f (PySem.W.fnOf name qual O U scope dV kV doc pm an cdv ct) ps sp:=by
 exists len,λA outer s H args us vs Q E hr e0 hb r ac htk=>?_;have hl:=len _ _ _ _ ac;have KX:K.In s.heap:=e0.mod.kin.keeps λb o e=>(e0.bs b o e).1;have af:s.heap.NoLimit:=e0.mod.nolimit.keeps λb o e=>(e0.bs b o e).1;have aa:∀y∈ps.zip us,scope.names.lookup y.1=u_ .local∨(scope.names.lookup y.1=u_ .cell/\((GQ (#[0,s]+1) scope.names []).lookup y.1).isSome=v_):=λ⟨n,v⟩ hy=>by
  rcases S.par n (Tp hy).1 with q|q
  ·exact .inl q
  ·exact .inr [q:PySem.W.cellsFrom_some _ _ _ (.inl q)]
 have ad:0<s.toks∨∃n v r,ps.zip us=(n,v)::r/\scope.names.lookup n=u_ .local:=by
  rcases htk with h|⟨y,q,e,hy⟩
  ·exact .inl h
  ·have:↑us=↑ps:=by rwa[<-↑r]
   subst e
   match us,this with
   |u::us',_=>exact .inr ⟨y,u,q.zip us',1,hy⟩
 refine codeAny_call_function hr.depth (KX _ _ lk) rfl S.co S.gen rfl (PySem.W.codeRec_of KX ae) (hb _ _ _ _ ?_);refine DW S.kind aa ad λenv he s1 x ag=>?_;subst he;exists af.keeps x.toInCall.keep,codeAny_func ?_;erw[Z A outer s H vs Q E (hr.deeper _) ac,t,ht,hq];have I:Inv (cxOf CX P w K mg base N qual scope f cdv A outer s H E) [] (KF N vs) H s1:=Eo S hr.hd e0 hl r x ag;refine vD (ht [] s1 (KF N vs) H _ I hq) (λfl s' hs=>?_) λe s' hs=>hs;have fin:∀{σ':St}{H':Hp}{v:V}{u:o6},Inv (cxOf CX P w K mg base N qual scope f cdv A outer s H E) [] σ' H' s'->ik v u->Q v H'->CE outer P w H s Q u s':=
  λ{σ' H' v u} J rv q=>⟨v,H',J.os,J.bare,J.tk,J.base,J.hok,rv,q⟩
 cases fl with
 |ret u=>
  erw[hs,v,σ',H',J,rv,q];exact fin J rv q
 |next=>
  erw[hs,σ',H',J,q];exact fin (v:=V.non) (u:=VF) J rfl q
 |brk=>
  erw[hs,_,_,_,q];exact VB q
 |cont=>
  erw[hs,_,_,_,q];exact VB q
section
variable {X:Cx}{x:Str}{p pos:Pos}{e:Expr}{es:oj Expr}{t:TA}{id T:String}{r:oj V->Hp->VK->Prop}
nonrec def tCB (r:oj V->Hp->VK->Prop)(t:TA):TE:=λσ H Q=>t σ H λvs H1=>r vs H1 Q
def qx (Z:Yt X (.builtin id) r)(hg:Gl X x)(hm:X.mg x=U_)(hv:Gj x=u_ (.builtin id))(ha:PA X (e::es) t)(hn:x≠"__name__")(O:(x==("__debug__":Str))=V6)
  (he:Vc (e::es) X.env=(V6,eval e X.env)::Vc es X.env) (U:(Vm pos (Vc es X.env)).any (·.1)=V6):PE X (.Call (.Name x p) (e::es) [] pos) (tCB r t):=by
 exists 2,Q,I,h;refine UK (WS I hg hm hv ?_ hn O);exact pS (thn (ha pos oq s σ H _ I h) λus s1 ⟨vs,H1,I1,r1,q1⟩=>Z oq s1 σ H1 vs us Q I1 r1 q1) he U
def qW (Z:Yt X (.type T) r)(hg:Gl X x)(hm:X.mg x=U_)(hv:Gj x=u_ (.type T))(ha:PA X (e::es) t)(hn:x≠"__name__")(O:(x==("__debug__":Str))=V6)
  (he:Vc (e::es) X.env=(V6,eval e X.env)::Vc es X.env) (U:(Vm pos (Vc es X.env)).any (·.1)=V6):PE X (.Call (.Name x p) (e::es) [] pos) (tCB r t):=by
 exists 2,Q,I,h;refine UK (WS I hg hm hv ?_ hn O);exact vR (thn (ha pos oq s σ H _ I h) λus s1 ⟨vs,H1,I1,r1,q1⟩=>Z oq s1 σ H1 vs us Q I1 r1 q1) he U
end
end L2
namespace HT
open PySem PyProof.Rows
section
variable {prog:o9}{w:og}{A:oh}{E:o6->o7->Prop}{s:o7}
def cat_tup {t b:o3}{vs ws:oj o6}{Q:o6->o7->Prop}(ht:GH s.heap t vs.toArray)(hb:GH s.heap b ws.toArray)(hv:vs≠ [])
  (h1:ws= []->Q (.ref t) s) (h2:ws≠ []->Q (.ref #[0,s]) {s with heap:=s.heap.push {cls:= .type "tuple",data:= .seq (vs++ws).toArray}})
  (hsz:↑vs+↑ws<=V9):V7 #[w,w] A (VI .Add (.ref t) (.ref b)) Q E s:=by
 erw[id ht,[cls,dd,data,sl],ho,hc,n,hd];erw[id hb,[ae,U,ad,Z],O,aa,n2,ac];simp only at hc hd aa ac;subst hc hd aa ac;have e:vs.toArray++ws.toArray=(vs++ws).toArray:=by simp
 by_cases hw:ws= []
 ·exact Ti [_:ho:1] [_:O:1] Tv tM PySem.F.slot_tuple_add UN (UF _ _)
   (tuple_addW1 t b vs.toArray ws.toArray n n2 dd U sl Z (by simpa using hv) (by simp[hw])) [ho:O:h1 hw]
 ·refine Ti [_:ho:1] [_:O:1] Tv tM PySem.F.slot_tuple_add UN (UF _ _)
   (tuple_addW2 t b vs.toArray ws.toArray n n2 dd U sl Z (by simpa using hv) (by simpa using hw) (by rwa[uz,uz])) [ho:O:?_]
  rw[e];exact h2 hw
nonrec def sIx (n d:Nat):om Int->Nat
 |none=>d
 |some v=>if v<0 then(v+(n:Int)).toNat else min v.toNat n
def sIx_none (n d:Nat):sIx n d U_=d:=rfl
def sIx_nat (n d k:Nat):sIx n d (u_ (k:Int))=min k n:=by
 show(if(k:Int)<0 then((k:Int)+(n:Int)).toNat else min (k:Int).toNat n)=min k n
 rw[A2 (),TK]
def Aag (n d:Nat)(hd:d<=n)(o:om Int):sIx n d o<=n:=by
 cases o with
 |none=>exact hd
 |some v=>
  show(if v<0 then(v+(n:Int)).toNat else min v.toNat n)<=n
  by_cases O:v<0
  ·rw[A3 O];omega
  ·rw[A2 O];exact Nat.min_le_right _ _
def E2 (v:Int)(n d:Nat):(if v<0 then max (v+(n:Int)) 0 else min v (n:Int))=((sIx n d (u_ v):Nat):Int):=by
 show(if v<0 then max (v+(n:Int)) 0 else min v (n:Int))=(((if v<0 then(v+(n:Int)).toNat else min v.toNat n):Nat):Int)
 by_cases O:v<0
 ·simp![A3 O];omega
 ·simp![A2 O];omega
def Cn (lo hi:om Int)(n:Nat):T1 lo hi 1 (n:Int)=(((sIx n 0 lo:Nat):Int),((sIx n n hi:Nat):Int)):=by
 have h1:¬((1:Int)<0):=by omega
 unfold T1;simp![h1,if_false];refine Prod.ext ?_ ?_
 ·cases lo with
  |none=>rfl
  |some v=>exact E2 v n 0
 ·cases hi with
  |none=>rfl
  |some v=>exact E2 v n n
def B8 (i j:Nat):Hx (i:Int) (j:Int) 1=j-i:=by
 unfold Hx;have h1:(1:Int)>0:=by omega
 simp![h1,if_true,Int.ediv_one];split<;>omega
def ke {v:o6}{o:om Int}{Q:om Int->o7->Prop}(p:VQ v o)(h:Q o s):V7 #[w,w] A (pd v) Q E s:=by
 cases p with
 |none=>exact Fj h
 |int i t=>exact slicePart_int h
def jZ {sl:o3}{Z vu:o6}{lo hi:om Int}{n:Nat}{Q:Int×Int×Nat->o7->Prop}(hs:s.heap.IsSliceOf sl Z vu .none)(pl:VQ Z lo)(pu:VQ vu hi)
  (h:Q (((sIx n 0 lo:Nat):Int),1,sIx n n hi-sIx n 0 lo) s):V7 #[w,w] A (rq (.ref sl) (pure (n:Int))) Q E s:=by
 erw[id hs,os,O,aa,U];unfold rq pP;refine A4 (A4 (vB O U (x:=Z) rfl (A4 (vB O U (x:=vu) rfl (A4 (vB O U (x:= .none) rfl (Vb ?_)))))));refine A4 (Fj ?_);show V7 _ _ (if((1:Int)==0)=v_ then _ else _) _ _ s
 rw[A2 ()]
 refine A4 (ke pl (A4 (ke pu (A4 (Vb ?_)))));show V7 _ _ (match T1 lo hi 1 (n:Int) with|(lo,hi)=>pure (lo,(1:Int),Hx lo hi 1)) _ _ s
 rw[Cn lo hi n];show V7 _ _ (pure (((sIx n 0 lo:Nat):Int),(1:Int),Hx ((sIx n 0 lo:Nat):Int) ((sIx n n hi:Nat):Int) 1)) _ _ s;rw[B8];exact Vb h
def IZ (xs:Array o6)(i k:Nat):((Vh k).filterMap λ(m:Nat)=>xs[((i:Int)+(m:Int)*1).toNat]?).toArray=((xs.toList.drop i).take k).toArray:=by
 have e:(λ(m:Nat)=>xs[((i:Int)+(m:Int)*1).toNat]?)=λm=>xs[i+m]? :=by
  funext m
  have:((i:Int)+(m:Int)*1).toNat=i+m:=by omega
  rw[this]
 rw[e];have:=pick_run xs i k;rw[List.filterMap_map] at this;have O:((λx=>xs[x]?)∘λx=>i+x)=λm=>xs[i+m]? :=rfl;rw[O] at this;rw[this]
def getItem_tuple_cut {t sl:o3}{items:Array o6}{vl vu:o6}{lo hi:om Int}{Q:o6->o7->Prop}(U:GH s.heap t items)(hs:s.heap.IsSliceOf sl vl vu .none)(pl:VQ vl lo)(pu:VQ vu hi)
  (hw:¬(sIx items.size 0 lo=0/\sIx items.size items.size hi=items.size))
  (h:Q (.ref #[0,s]) {s with heap:=s.heap.push {cls:= .type "tuple",data:= .seq ((items.toList.drop (sIx items.size 0 lo)).take (sIx items.size items.size hi-sIx items.size 0 lo)).toArray}})
  (hsz:items.size<=V9):V7 #[w,w] A (VO (.ref t) (.ref sl)) Q E s:=by
 have O:sizeOk (.seq ((items.toList.drop (sIx items.size 0 lo)).take (sIx items.size items.size hi-sIx items.size 0 lo)).toArray):=by
  show((items.toList.drop (sIx items.size 0 lo)).take (sIx items.size items.size hi-sIx items.size 0 lo)).toArray.size<=V9;rw[uz,vM,vN,Vq];omega
 have hj:sIx items.size items.size hi<=items.size:=Aag _ _ (uq _) hi;erw[id hs,os,Z,aa,ae];have ac:s.TypeIs (.ref sl) "slice":=[os:Z:aa];unfold VO
 try with_reducible refine VD ?_
 first|refine A4 (Vb ?_)|skip
 refine A4 (TW U.typeIs () ?_)
 refine A4 (vC (name:=GJ "__getitem__") U.typeIs vG
  (vT vG U.typeIs RP ?_ (re _ _)))
 show V7 _ _ (Fs (.ref t)>>=_) _ _ s;refine A4 (FQ U ?_);refine A4 (Gf ac ?_);rw[A3 ()]
 refine A4 (jZ hs pl pu ?_);have ad:¬((((sIx items.size 0 lo:Nat):Int)==0&&(1:Int)==1&&(sIx items.size items.size hi-sIx items.size 0 lo)==items.size)=v_):=by
  intro q;rw[uF,uF] at q;have q1:((sIx items.size 0 lo:Nat):Int)=0:=eq_of_beq q.1.1;have q2:sIx items.size items.size hi-sIx items.size 0 lo=items.size:=eq_of_beq q.2;exact hw [():()]
 show V7 _ _ (if(((sIx items.size 0 lo:Nat):Int)==0&&(1:Int)==1&&(sIx items.size items.size hi-sIx items.size 0 lo)==items.size)=v_ then _ else _) _ _ s
 rw[A2 ad,IZ]
 first
  |exact A4 (m:=GF _) (vo (Vb ⟨0,Vb h⟩) O)
  |exact A4 (m:=GF _) (vo (A4 (Vb (Vb ⟨0,Vb h⟩))) O)
  |exact A4 (A4 (m:=GF _) (vo (Vb (Vb ⟨0,Vb h⟩)) O))
  |exact A4 (A4 (m:=GF _) (vo (Vb ⟨0,Vb h⟩) O))
end
end HT
namespace L2
open PySem PySem.Spec PyProof.Rows
noncomputable abbrev TO:=St->Hp->(om Int->Hp->Prop)->Prop
nonrec def PO (X:Cx)(e:om Expr)(t:TO):Prop:=
 ∀(oq:oj (o3×Obj)) (s:o7) (σ:St) (H:Hp) (Q:om Int->Hp->Prop),#[I]->t σ H Q->
  V7 #[X,X] X.A (evalPart e X.env) (λu s'=>∃o H',Inv X oq σ H' s'/\VQ u o/\Q o H') X.xe s
nonrec def sC:TO:=λ_ H Q=>Q U_ H
inductive AbA (Q:(Option Int->Hp->Prop))(x:V)(H1:Hp):Prop
 |mk (i:_)(_:x= .int i)(_:Q (u_ i) H1)
nonrec def Ab1 (t:TE):TO:=λσ H Q=>t σ H λx H1=>AbA Q x H1
def Cj {ns:oj Int}:∀{us:oj o6},im (ns.map V.int) us->Gq us ns:=by
 induction ns with
 |nil=>intro us r;rw[U7] at r;cases r;exact .nil
 |cons n ns O=>
  intro us r;rw[uC] at r;cases r with
  |cons U Z=>
   erw[U,t,e];subst e;exact .cons n t (O Z)
section
variable {X:Cx}{e:Expr}{te:TE}{lo hi:om Expr}{tl th:TO}{pos p2:Pos}
def JC:PO X U_ sC:=by
 exists 2,Q,I,h;rw[tI];exact Vb ⟨U_,H,I,.none,h⟩
def YM (h:PE X e te):PO X (u_ e) (Ab1 te):=by
 exists 2,Q,I,O;rw[Rq];refine thn (h oq s σ H _ I O) λu s1 zq=>?_;erw[zq,x,H1,U,Z,q1];erw[q1,i,rfl,q];erw[Z,t,rfl];exact⟨u_ i,H1,U,.int i t,q⟩
nonrec def SlR (X:Cx)(r:V->om Int->om Int->Hp->VK->Prop):Prop:=
 ∀(oq:oj (o3×Obj)) (s:o7) (σ:St) (H:Hp) (x:V) (v vl vu:o6) (lo hi:om Int) (sl:o3) (Q:VK),#[I]->ik x v->s.heap.IsSliceOf sl vl vu .none->VQ vl lo->VQ vu hi->r x lo hi H Q->
  ∃T id,Hz (.type T) "__getitem__"=pure (u_ (.builtin id))/\s.TypeIs v T/\V7 #[X,X] X.A (VO v (.ref sl)) (EP X oq σ Q) X.xe s
def SlR.or {r r':V->om Int->om Int->Hp->VK->Prop}(h:SlR X r)(h':SlR X r'):SlR X (λx lo hi H Q=>r x lo hi H Q∨r' x lo hi H Q):=by
 exists 2,x,v,O,U,lo,hi,sl,Q,I,Z,hs,pl,pu,q;rcases q with q|q
 ·exact h oq s σ H x v O U lo hi sl Q I Z hs pl pu q
 ·exact h' oq s σ H x v O U lo hi sl Q I Z hs pl pu q
nonrec def tSl (r:V->om Int->om Int->Hp->VK->Prop)(te:TE)(tl th:TO):TE:=λσ H Q=>te σ H λx H1=>tl σ H1 λl H2=>th σ H2 λu H3=>r x l u H3 Q
def Ys {r:V->om Int->om Int->Hp->VK->Prop}(hr:SlR X r)(he:PE X e te)(hl:PO X lo tl)(hu:PO X hi th):PE X (.Subscript e (.Slice lo hi U_ p2) pos) (tSl r te tl th):=by
 exists 2,Q,I,h;refine HR (thn (he oq s σ H _ I h) λv s1 zq=>?_);erw[zq,x,H1,I1,r1,q1];refine rL (thn (hl oq s1 σ H1 _ I1 q1) λU s2 ⟨l,H2,I2,pl,q2⟩=>thn (hu oq s2 σ H2 _ I2 q2) λZ O zq=>?_);erw[zq,u,H3,I3,pu,q3];rw[tI];refine Vb ?_;have I4:Inv X oq σ H3 {O with heap:=O.heap.push {cls:= .type "slice",data:= .fields #[U,Z,.none]}}:=I3.kept (t':=O.toks) λb ob q=>uh _ q
 erw[hr oq {O with heap:=O.heap.push {cls:= .type "slice",data:= .fields #[U,Z,.none]}} σ H3 x v U Z l u #[0,O] Q I4 r1 (R7 ..) pl pu q3,T,id,hT,ht,hg]
 show V7 #[X,X] X.A (HF e (.Slice lo hi U_ p2) v (.ref #[0,O])) (EP X oq σ Q) X.xe {O with heap:=O.heap.push {cls:= .type "slice",data:= .fields #[U,Z,.none]}}
 exact HS (ops:= [.ref #[0,O],v]) ht hT hg #[w]
nonrec def ni (xs:oj V)(lo hi:om Int):oj V:=(xs.drop (HT.sIx ↑xs 0 lo)).take (HT.sIx ↑xs ↑xs hi-HT.sIx ↑xs 0 lo)
def Z8 (xs:oj V)(lo hi:om Int):↑(ni xs lo hi)<=↑xs:=by
 unfold ni;rw[vM,vN];omega
inductive AdC (K:PySem.W.Frag)(x:V)(lo:Option Int)(hi:Option Int)(H:Hp)(Q:VK):Prop
 |mk (a:_)(xs:_)(_:x= .ref a)(_:SqT K H a xs)(_:¬(HT.sIx ↑xs 0 lo=0/\HT.sIx ↑xs ↑xs hi=↑xs))(_:∀p,H p=U_->Q (.ref p) (upd H p (.tup (ni xs lo hi))))
def Aab:SlR X (AdC X.K):=by
 exists 2,x,v,vl,vu,lo,hi,sl,Q,I,rx,hs,pl,pu,h;erw[h,a,xs,rfl,hx,hw,q];cases rx;erw[I.tuple hx,its,r,U,Z];have O:its.toArray.size=↑xs:=by rw[uz];exact r.length.symm
 exists "tuple",_,PyProof.Rows.slot_tuple_getitem.lookup,U.typeIs;refine HT.getItem_tuple_cut U hs pl pu (by rwa[O]) ?_ (by rwa[O])
 rw[O];exists .ref #[0,s],_,I.laid (t':=s.toks) (o:= .tup (ni xs lo hi)) (λb ob q=>uh _ q) (uq _) ?_,1,q _ (I.hok.fresh (uq _));exact⟨uT (Z8 xs lo hi) Z,_,(r.drop (HT.sIx ↑xs 0 lo)).take (HT.sIx ↑xs ↑xs hi-HT.sIx ↑xs 0 lo),GW _ _⟩
inductive Acm (K:PySem.W.Frag)(x:V)(y:V)(H:Hp)(Q:VK):Prop
 |mk (a:_)(b:_)(xs:_)(ys:_)(_:x= .ref a)(_:y= .ref b)(_:SqT K H a xs)(_:SqT K H b ys)(_:xs≠ [])(_:↑xs+↑ys<=V9)(_:(ys= []->Q (.ref a) H))(_:(ys≠ []->∀p,H p=U_->Q (.ref p) (upd H p (.tup (xs++ys)))))
variable {xs:oj V}{us:oj o6}
def im.nil_iff (r:im xs us):us= []↔xs= []:=by
 cases r with
 |nil=>simp
 |cons _ _=>simp
def Op:OpR X (VI .Add) (Acm X.K):=by
 exists 2,x,y,v,u,Q,I,rx,ry,h;erw[h,a,b,xs,ys,rfl,rfl,ha,hb,hx,Z,q1,q2];cases rx;cases ry;erw[I.tuple ha,its,U,p1,_];erw[I.tuple hb,aa,O,p2,_];refine HT.cat_tup p1 p2 (λz=>hx (U.nil_iff.mp z)) (λz=>⟨.ref a,H,I,1,q1 (O.nil_iff.mp z)⟩) (λz=>?_) (by rwa[<-↑U,<-↑O])
 exists .ref #[0,s],_,I.laid (t':=s.toks) (o:= .tup (xs++ys)) (λb ob q=>uh _ q) (uq _) ?_,1,q2 (λw=>z (O.nil_iff.mpr w)) _ (I.hok.fresh (uq _));exact⟨by rwa[uB],_,U.append O,GW _ _⟩
end
nonrec def ixN (n:Nat)(i:Int):om Nat:=if 0<=i then(if i<n then u_ i.toNat else U_) else if-(n:Int)<=i then u_ (i+n).toNat else U_
nonrec def atI {α:Type}(xs:oj α)(i:Int):om α:=(ixN ↑xs i).bind λj=>xs[j]?
variable {n j:Nat}
def sY {i:Int}(h:ixN n i=u_ j):seqIndex? i n=u_ j/\j<n/\ -(n:Int)<=i/\i<n:=by
 unfold ixN at h;by_cases h0:0<=i
 ·rw[A3 h0] at h;by_cases h1:i<n
  ·rw[A3 h1] at h;have e:i.toNat=j:=uN h;exact⟨by rw[T2 h0 h1,e],(),(),h1⟩
  ·rw[A2 h1] at h;cases h
 ·rw[A2 h0] at h;by_cases h1: -(n:Int)<=i
  ·rw[A3 h1] at h;have e:(i+n).toNat=j:=uN h;exact⟨by rw[TJ () h1,e],(),h1,()⟩
  ·rw[A2 h1] at h;cases h
def Kr {α:Type}{xs:oj α}{i:Int}{v:α}(h:atI xs i=u_ v):∃j,seqIndex? i ↑xs=u_ j/\xs[j]? =u_ v/\j<↑xs/\ -(↑xs:Int)<=i/\i<↑xs:=by
 unfold atI at h;cases e:ixN ↑xs i with
 |none=>rw[e] at h;cases h
 |some j=>
  rw[e] at h;erw[sY e,h1,h2,h3,h4];exact⟨j,h1,h,h2,h3,h4⟩
def qE {α:Type}{xs:oj α}{v:α}(h:xs[j]? =u_ v):atI xs (j:Int)=u_ v:=by
 have O:j<↑xs:=(Ae.mp h).1;have e:ixN ↑xs (j:Int)=u_ j:=by
  unfold ixN;rw[A3 (),A3 ()];simp
 unfold atI;rw[e];exact h
def XU {α:Type}(xs:oj α)(v:α):atI (xs++ [v]) (-1)=u_ v:=by
 have O:↑(xs++ [v])=↑xs+1:=by simp
 have e:ixN ↑(xs++ [v]) (-1)=u_ ↑xs:=by
  unfold ixN;rw[O,A2 (),A3 ()]
  congr 1
  omega
 unfold atI;rw[e];show(xs++ [v])[↑xs]? =u_ v;simp
nonrec def PR (b:Expr):Prop:=∀o i,Hk b V6 o i=HE [o,i] (VO o i)
nonrec def IxR (X:Cx)(r:R2):Prop:=
 ∀(value slice:Expr) (oq:oj (o3×Obj)) (s:o7) (σ:St) (H:Hp) (x y:V) (v u:o6) (Q:VK),#[I]->ik x v->ik y u->r x y H Q->
  Hk slice V6 v u=HE [v,u] (VO v u)->V7 #[X,X] X.A (HF value slice v u) (EP X oq σ Q) X.xe s
nonrec def MtR (X:Cx)(id:String)(r:V->oj V->Hp->VK->Prop):Prop:=
 ∀(oq:oj (o3×Obj)) (s:o7) (σ:St) (H:Hp) (x:V) (xs:oj V) (v:o6) (us:oj o6) (Q:VK),#[I]->ik x v->im xs us->r x xs H Q->
  V7 #[X,X] X.A (call (.builtin id) (v::us)) (EP X oq σ Q) X.xe s
section
variable {X:Cx}{a b:Expr}{ta tb:TE}{pos:Pos}
def IxR.or {r r':R2}(h:IxR X r)(h':IxR X r'):IxR X (λx y H Q=>r x y H Q∨r' x y H Q):=by
 intro value slice oq s σ H x y v u Q I O U q Z;rcases q with q|q
 ·exact h value slice oq s σ H x y v u Q I O U q Z
 ·exact h' value slice oq s σ H x y v u Q I O U q Z
def qF {r:R2}(O:IxR X r)(ha:PE X a ta)(U:PE X b tb)(Z:PR b):PE X (.Subscript a b pos) (tOp r ta tb):=by
 exists 2,Q,I,h;exact HR (AcN ha U I h λv u s2 x y H2 I2 rx ry q=>O a b oq s2 σ H2 x y v u Q I2 rx ry q (Z _ _))
inductive Ac9 (K:PySem.W.Frag)(x:V)(y:V)(H:Hp)(Q:VK):Prop
 |mk (p:_)(xs:_)(i:_)(v:_)(_:x= .ref p)(_:y= .int i)(_:SqL K H p xs)(_:atI xs i=u_ v)(_:Q v H)
inductive Od (K:PySem.W.Frag)(x:V)(y:V)(H:Hp)(Q:VK):Prop
 |mk (p:_)(xs:_)(i:_)(v:_)(_:x= .ref p)(_:y= .int i)(_:SqT K H p xs)(_:atI xs i=u_ v)(_:Q v H)
inductive Ac8 (x:V)(y:V)(H:Hp)(Q:VK):Prop
 |mk (z:_)(i:_)(c:_)(_:x= .str z)(_:y= .int i)(_:↑z<=V9)(_:atI z.cps.toList i=u_ c)(_:Q (.str ⟨#[c]⟩) H)
def Yj:IxR X (Ac9 X.K):=by
 intro value slice oq s σ H x y v u Q I rx ry h Z;erw[h,p,xs,i,z,rfl,rfl,hq,he,q];cases rx;erw[ry,t,rfl];erw[I.list hq,its,r,pl,hz];erw[Kr he,j,h1,h2,h3,h4,h5];erw[r.get h2,w,ew,O];have hl:=↑r;have hn:=Zn;have fin:EP X oq σ Q w s:=⟨z,H,I,O,q⟩;by_cases h0:0<=i
 ·have U:i.toNat=j:=by
   rw[T2 h0 h5] at h1;exact uN h1
  exact item_listR pl.isList h0 () (by rw[U];simpa using ew) fin Z
 ·have U:(i+(its.toArray.size:Int)).toNat=j:=by
   rw[TJ () h4] at h1
   rw[uz,<-hl];exact uN h1
  exact Rm (x:=w) pl.isList.typeIs slot_list_getitem.lookup
   (wpAny_getItem_list_neg (Q:=λr s'=>r=w/\EP X oq σ Q r s') pl.isList () (by rw[uz]<;>omega) () (by rw[U];simpa using ew) [1:fin]) Z
def qz:IxR X (Od X.K):=by
 intro value slice oq s σ H x y v u Q I U Z h hs;erw[h,p,xs,i,z,rfl,rfl,hq,he,q];cases U;erw[Z,t,rfl];erw[I.tuple hq,its,r,pl,hz];erw[Kr he,j,h1,h2,h3,h4,h5];erw[r.get h2,w,ew,O];have hl:=↑r;have hn:=Zn;have fin:EP X oq σ Q w s:=⟨z,H,I,O,q⟩;exact Rm (x:=w) pl.typeIs slot_tuple_getitem.lookup
  (getItem_tuple (j:=j) (Q:=λr s'=>r=w/\EP X oq σ Q r s') pl () () (by rwa[uz,<-hl]) (by simpa using ew) [1:fin]) hs
def Bp:IxR X Ac8:=by
 intro value slice oq s σ H x y v u Q I O U h Z;erw[h,z,i,c,rfl,rfl,hz,he,q];erw[O,t,rfl];erw[U,t',rfl];erw[Kr he,j,h1,h2,h3,h4,h5];have hl:↑z.cps.toList=↑z:=by simp[VU]
 rw[hl] at h1 h4 h5;have hn:=Zn;exact HS (vL s z t) slot_str_getitem.lookup (getItem_str (c:=c) (by
  have e1:decide (i< -(2^63:Int))=false:=ue ()
  have e2:decide (i≥2^63)=false:=ue ()
  rw[e1,e2,Bool.or_false]) (by rw[h1];simpa using h2) ⟨.str ⟨#[c]⟩,H,I.tok _,⟨0⟩,q⟩) Z
nonrec def rIx (K:o0):R2:=λx y H Q=>Ac9 K x y H Q∨Od K x y H Q∨Ac8 x y H Q
def XO:IxR X (rIx X.K):=Yj.or (qz.or Bp)
def Cc (its:oj o6)(n j:Nat)(u:o6):GY (·.setIfInBounds j u) {cls:= .type "list",data:= .seq its.toArray n}={cls:= .type "list",data:= .seq (its.set j u).toArray n}:=by
 simp[GY]
def Inv.lst {oq:oj (o3×Obj)}{σ:St}{H:Hp}{s:o7}{p:o3}{xs:oj V}(I:#[I])(h:H p=u_ (.lst xs)):
  ∃(its:oj o6) (n:Nat),im xs its/\s.heap.get? p=u_ {cls:= .type "list",data:= .seq its.toArray n}/\↑xs<=sizeLine:=by
 erw[I.hok p _ h,z,its,n,r,e];exact⟨its,n,r,e,z⟩
def Inv.lstUpd {oq:oj (o3×Obj)}{σ:St}{H:Hp}{s:o7}{p:o3}{xs ys:oj V}{its its':oj o6}{n O:Nat}{f:Obj->Obj}(I:#[I])(h:H p=u_ (.lst xs))
  (Z:s.heap.get? p=u_ {cls:= .type "list",data:= .seq its.toArray n}) (U:f {cls:= .type "list",data:= .seq its.toArray n}={cls:= .type "list",data:= .seq its'.toArray O}) (r:im ys its') (hz:↑ys<=V9) (t:Nat) (ht:0<t:=by ac_rfl):
  Inv X oq σ (upd H p (.lst ys)) {s with heap:=s.heap.update p f,toks:=t}:=by
 have e:(s.heap.update p f).get? p=u_ {cls:= .type "list",data:= .seq its'.toArray O}:=by
  rw[Hy f Z (by rw[U]<;>rfl),U]
 refine I.write (x:=p) (e:=p) (by rw[h];trivial) (.inl rfl) (λb u hb q=>(tu _ _ (Ux hb)).trans q) [_:e] ?_
 exact⟨hz,its',O,r,e⟩
inductive Aci (o:V)(i:V)(v:V)(H:Hp)(Q:(Hp->Prop)):Prop
 |mk (p:_)(xs:_)(k:_)(j:_)(_:o= .ref p)(_:i= .int k)(_:H p=u_ (.lst xs))(_:ixN ↑xs k=u_ j)(_:Q (upd H p (.lst (xs.set j v))))
def IS:Adn X Aci:=by
 exists 2,o,i,v,ov,iv,u,Q,I,ro,ri,rv,h;erw[h,p,xs,k,j,rfl,rfl,hp,hj,q];cases ro;erw[ri,t,rfl];erw[I.lst hp,its,n,r,O,hz];erw[sY hj,h1,h2,h3,h4];have U:=↑r;have hn:=Zn;have I':Inv X oq σ (upd H p (.lst (xs.set j v))) {s with heap:=s.heap.update p (GY (·.setIfInBounds j u))}:=
  I.lstUpd hp O (Cc its n j u) (r.set rv j) (by rwa[List.length_set]) s.toks
 by_cases h0:0<=k
 ·have Z:k.toNat=j:=by
   rw[T2 h0 h4] at h1;exact uN h1
  exact PySem.W.ki_setAt O h0 () (by rwa[uz,<-U]) (by rw[Z];exact[_:I':q])
 ·have Z:(k+(its.toArray.size:Int)).toNat=j:=by
   rw[TJ () h3] at h1
   rw[uz,<-U];exact uN h1
  exact PySem.W.ki_setBack O () (by rwa[uz,<-U]) () (by rw[Z];exact[_:I':q])
def nG (lo hi:om Int)(n:Nat):(VR lo hi U_ n).1=((HT.sIx n 0 lo:Nat):Int)/\(VR lo hi U_ n).2.1=((HT.sIx n n hi:Nat):Int)/\(VR lo hi U_ n).2.2=1:=by
 exists ?_,?_,1
 ·cases lo with
  |none=>simp[VR,HT.sIx]
  |some i=>
   simp![VR,HT.sIx,RB,show(1:Int)>0 by decide,if_true]
   by_cases h:i<0
   ·simp![h,if_true]<;>omega
   ·simp![h,if_false]<;>omega
 ·cases hi with
  |none=>simp[VR,HT.sIx]
  |some i=>
   simp![VR,HT.sIx,RB,show(1:Int)>0 by decide,if_true]
   by_cases h:i<0
   ·simp![h,if_true]<;>omega
   ·simp![h,if_false]<;>omega
def Kq (its:oj o6)(lo hi:om Int):Tj its.toArray lo hi U_=((its.drop (HT.sIx ↑its 0 lo)).take (HT.sIx ↑its ↑its hi-HT.sIx ↑its 0 lo)).toArray:=by
 erw[nG lo hi its.toArray.size,h1,h2,h3];unfold Tj;rw[h1,h2,h3];simp![sliceRange_one,pick_run,uz]<;>rfl
inductive AdD (K:PySem.W.Frag)(x:V)(lo:Option Int)(hi:Option Int)(H:Hp)(Q:VK):Prop
 |mk (a:_)(xs:_)(_:x= .ref a)(_:SqL K H a xs)(_:∀p,H p=U_->Q (.ref p) (upd H p (.lst (ni xs lo hi))))
def KI:SlR X (AdD X.K):=by
 exists 2,x,v,vl,vu,lo,hi,sl,Q,I,Z,hs,pl,pu,h;erw[h,a,xs,rfl,hx,q];cases Z;erw[I.list hx,its,r,U,hz];have O:=↑r;exists "list",_,slot_list_getitem.lookup,U.isList.typeIs;refine Fe U.isList hs pl pu .none (by simp) ?_ (by rw[uz]<;>omega)
 rw[Kq,<-O];exists .ref #[0,s],_,I.laid (t':=s.toks) (o:= .lst (ni xs lo hi)) (λb ob q=>uh _ q) (uq _) ?_,1,q _ (I.hok.fresh (uq _));exact⟨uT (Z8 xs lo hi) hz,_,(0),(r.drop (HT.sIx ↑xs 0 lo)).take (HT.sIx ↑xs ↑xs hi-HT.sIx ↑xs 0 lo),uJ _ rfl⟩
nonrec def ZQ:V->Bool
 | .non=>v_
 | .bl _=>v_
 | .int _=>v_
 | .str _=>v_
 |_=>V6
nonrec def eqV:V->V->Bool
 | .non,.non=>v_
 | .bl a,.bl b=>a==b
 | .bl a,.int b=>(if a then 1 else 0)==b
 | .int a,.bl b=>a==(if b then 1 else 0)
 | .int a,.int b=>a==b
 | .str a,.str b=>a==b
 |_,_=>V6
variable {A:oh}{s:o7}{y:V}{u:o6}
def Abd {x:V}{v:o6}(U:ik y u)(O:ik x v)(fy:ZQ y=v_)(Z:ZQ x=v_):Vp A s u v (eqV y x):=by
 cases y with
 |non=>
  cases U;cases x with
  |non=>cases O;exact HK _
  |bl b=>cases O;exact pN b
  |int b=>erw[O,t,rfl];exact R6 b t
  |str b=>erw[O,t,rfl];exact rf b t
  |_=>exact A7 (show V6=v_ from Z) uc
 |bl a=>
  cases U;cases x with
  |non=>cases O;exact p8 a
  |bl b=>cases O;exact pF a b
  |int b=>erw[O,t,rfl];exact pC a b t
  |str b=>erw[O,t,rfl];exact pH a b t
  |_=>exact A7 (show V6=v_ from Z) uc
 |int a=>
  erw[U,t',rfl];cases x with
  |non=>cases O;exact Fg a t'
  |bl b=>cases O;exact p6 a t' b
  |int b=>erw[O,t,rfl];exact HW a t' b t
  |str b=>erw[O,t,rfl];exact UH a t' b t
  |_=>exact A7 (show V6=v_ from Z) uc
 |str a=>
  erw[U,t',rfl];cases x with
  |non=>cases O;exact rN a t'
  |bl b=>cases O;exact pJ a t' b
  |int b=>erw[O,t,rfl];exact UI a t' b t
  |str b=>erw[O,t,rfl];exact UO a t' b t
  |_=>exact A7 (show V6=v_ from Z) uc
 |_=>exact A7 (show V6=v_ from fy) uc
nonrec def eqU (x:V)(u:o6):Bool:=match u with
 | .none=>eqV .non x
 | .bool b=>eqV (.bl b) x
 | .int i _=>eqV (.int i) x
 | .str z _=>eqV (.str z) x
 |_=>V6
def MN {x:V}(r:ik y u)(f:ZQ y=v_):eqU x u=eqV y x:=by
 cases y with
 |non=>cases r;rfl
 |bl b=>cases r;rfl
 |int i=>erw[r,t,rfl];rfl
 |str z=>erw[r,t,rfl];rfl
 |_=>exact A7 (show V6=v_ from f) uc
def As {x:V}:∀{xs:oj V}{us:oj o6},im xs us->xs.all ZQ=v_->us.any (eqU x)=xs.any λy=>eqV y x
 |_,_,.nil,_=>rfl
 |y::xs,u::us,.cons r t,f=>by
  rw[vv,uF] at f;rw[Ut,Ut,MN r f.1,As t f.2]
def Kz {A:oh}{s:o7}{x:V}{v:o6}(U:ik x v)(Z:ZQ x=v_):∀{xs:oj V}{us:oj o6},im xs us->xs.all ZQ=v_->∀u∈us,Vp A s u v (eqU x u)
 |_,_,.nil,_=>λu O=>by cases O
 |y::xs,u::us,.cons r t,f=>λu' O=>by
  rw[vv,uF] at f;rcases A9.mp O with rfl|O
  ·rw[MN r f.1];exact Abd r U f.1 Z
  ·exact Kz U Z t f.2 u' O
nonrec def inV (x:V)(xs:oj V):Bool:=xs.any λy=>eqV y x
inductive rIn (K:PySem.W.Frag)(neg:Bool)(x:V)(y:V)(H:Hp)(Q:VK):Prop
 |mk (p:_)(xs:_)(_:y= .ref p)(_:(SqL K H p xs∨SqT K H p xs))(_:ZQ x=v_)(_:xs.all ZQ=v_)(_:Q (.bl (if neg then !inV x xs else inV x xs)) H)
def QF:OpR X (Vj .In) (rIn X.K V6):=by
 exists 2,x,y,v,u,Q,I,Z,ry,h;erw[h,p,xs,rfl,O,fx,fs,q];cases ry;rcases O with O|O
 ·erw[I.list O,its,r,pl,hz];refine Ra (eqU x) pl.isList (λw U=>Kz Z fx r fs w (by simpa using U)) ⟨.bl _,H,I,1,?_⟩
  rw[show its.toArray.any (eqU x)=its.any (eqU x) by simp,As r fs]
  exact q
 ·erw[I.tuple O,its,r,pl,hz];refine Rc (eqU x) pl (λw U=>Kz Z fx r fs w (by simpa using U)) ⟨.bl _,H,I,1,?_⟩
  rw[show its.toArray.any (eqU x)=its.any (eqU x) by simp,As r fs]
  exact q
def ot:OpR X (Vj .NotIn) (λx y H Q=>∃i j,x= .str i/\y= .str j/\Q (.bl (!(!(Hl j i 0 ↑j 1).isEmpty))) H):=by
 exists 2,x,y,v,u,Q,I,O,U,h;erw[h,i,j,rfl,rfl,q];erw[O,t,rfl];erw[U,t',rfl];exact notIn_str ⟨.bl _,H,I,1,q⟩
def qD:Yt X (.builtin "len") (λxs H Q=>∃p ys,xs= [.ref p]/\(SqL X.K H p ys∨SqT X.K H p ys)/\Q (.int ↑ys) H):=by
 exists 2,xs,us,Q,I,r,h;erw[h,p,ys,rfl,U,q];erw[Jw r,u,rfl,Z];cases Z;have hn:=Zn;rcases U with U|U
 ·erw[I.list U,its,r',pl,hz];have O:=↑r';exact RO pl.isList (by simp![uz]<;>omega) ⟨.int ↑ys,H,I.tok _,⟨s.toks+1,by rw[uz,O]⟩,q⟩
 ·erw[I.tuple U,its,r',pl,hz];have O:=↑r';exact len_tuple pl (by simp![uz]<;>omega) ⟨.int ↑ys,H,I.tok _,⟨s.toks+1,by rw[uz,O]⟩,q⟩
def Zp:Yt X (.builtin "len") (λxs H Q=>∃z,xs= [.str z]/\↑z<=V9/\Q (.int ↑z) H):=by
 exists 2,xs,us,Q,I,r,h;erw[h,z,rfl,O,q];erw[Jw r,u,rfl,t,rfl];have hn:=Zn;exact len_str () ⟨.int ↑z,H,I.tok _,⟨0⟩,q⟩
def qZ:Yt X (.type "tuple") (λxs H Q=>∃p ys,xs= [.ref p]/\((SqL X.K H p ys/\∀l,H l=U_->Q (.ref l) (upd H l (.tup ys)))∨(SqT X.K H p ys/\Q (.ref p) H))):=by
 exists 2,xs,us,Q,I,r,h;erw[h,p,ys,rfl,h];erw[Jw r,u,rfl,rx];cases rx;rcases h with⟨O,q⟩|⟨O,q⟩
 ·erw[I.list O,its,r',pl,U];have Z:=↑r';refine call_tuple_list pl.isList (λh' kp=>?_) (by simp![uz]<;>omega)
  have I1:Inv X oq σ H {s with heap:=h'}:=I.kept (t':=s.toks) kp
  have I2:Inv X oq σ (upd H h'.objs.size (.tup ys)) {s with heap:=h'.push {cls:= .type "tuple",data:= .seq its.toArray}}:=
   I1.laid (t':=s.toks) (λb o e=>uh _ e) (uq _) (show yf X.prog X.w _ _ _ (.tup ys) from⟨U,its,r',GW _ _⟩)
  exact⟨.ref h'.objs.size,_,I2,1,q _ (I1.hok.fresh (uq _))⟩
 ·erw[I.tuple O,its,r',pl,U];exact call_tuple_same pl ⟨.ref p,H,I,1,q⟩
nonrec def tyV (K:o0)(T:String)(x:V)(H:Hp):Prop:=match x with
 | .str _=>T="str"
 | .int _=>T="int"
 | .ref p=>(T="list"/\∃xs,SqL K H p xs)∨(T="tuple"/\∃o,K.lookup p=u_ o/\o.cls= .type "tuple"/\o.dict=U_)∨
   (T="dict"/\((∃kvs,H p=u_ (.dK kvs))∨∃kvs,H p=u_ (.dT kvs)))∨(T="set"/\∃S n,H p=u_ (.set S n))
 |_=>False
variable {oq:oj (o3×Obj)}{σ:St}{H:Hp}
def Ma {T:String}{x:V}{v:o6}(I:#[I])(r:ik x v)(ty:tyV X.K T x H):
  s.TypeIs v T/\∀a,v= .ref a->∃ob,s.heap.get? a=u_ ob/\ob.dict=none:=by
 cases x with
 |str z=>
  erw[r,t,rfl];cases(show T="str" from ty)
  exact[vL s z t:λ_ e=>nomatch e]
 |int i=>
  erw[r,t,rfl];cases(show T="int" from ty)
  exact[typeIs_int s i t:λ_ e=>nomatch e]
 |ref p=>
  cases r;rcases ty with⟨rfl,xs,Z⟩|⟨rfl,o,O,hc,hd⟩|⟨rfl,O⟩|⟨rfl,S,n,O⟩
  ·erw[I.list Z,its,_,pl,_];exists pl.isList.typeIs,λa e=>?_;cases e;erw[pl,o,n,e,c,hd,_];exact[o:e:hd]
  ·exists [o:I.kIn p o O:hc],λa e=>?_;cases e;exact[o:I.kIn _ o O:hd]
  ·have z:∃o,s.heap.get? p=u_ o/\o.ExactDict:=by
    rcases O with⟨kvs,O⟩|⟨kvs,O⟩
    ·erw[I.hok p _ O,_,_,_,_,o,_,_,e,ex,_];exact[o:e:ex]
    ·erw[I.hok p _ O,_,_,_,_,o,_,_,e,ex,_];exact[o:e:ex]
   erw[z,o,e,ex];exists [o:e:ex.1],λa U=>?_;cases U;exact[o:e:ex.2.1]
  ·erw[I.hok p _ O,o,_,_,_,e,ex,_];exists [o:e:ex.1],λa U=>?_;cases U;exact[o:e:ex.2.1]
 |_=>exact VB ty
nonrec def Adw (K:o0)(T:String)(r:V->oj V->Hp->VK->Prop)(to:TE):TE:=λσ H Q=>to σ H λx H1=>tyV K T x H1/\r x [] H1 Q
nonrec def tBM (K:o0)(T:String)(r:V->oj V->Hp->VK->Prop)(to:TE)(t:TA):TE:=λσ H Q=>to σ H λx H1=>tyV K T x H1/\t σ H1 λxs H2=>r x xs H2 Q
variable {o e:Expr}{es:oj Expr}{to:TE}{t:TA}{name:Str}{apos cpos:Pos}{T id:String}{r:V->oj V->Hp->VK->Prop}
def Mo (pa:TD T)(slot:Slot T name id)(Z:typeOf (.builtin id)=pure (.type "method_descriptor"))(hm:MtR X id r)(ho:PE X o to)
  (O:GE o name X.env (eval o X.env)=eval o X.env) (U:(apos.endLine==cpos.line)=v_):PE X (.Call (.Attribute o name apos) [] [] cpos) (Adw X.K T r to):=by
 exists 2,Q,I,h;refine wpAny_Call_method0_late O U (thn (ho oq s σ H _ I h) λv s1 zq=>?_);erw[zq,x,H1,I1,r1,ty,q1];erw[Ma I1 r1 ty,h1,h2];exact⟨T,id,pa,slot,Z,h1,h2,Ue rfl (PySem.evalArgs_none (hm oq s1 σ H1 x [] v [] Q I1 r1 .nil q1))⟩
def jk (pa:TD T)(slot:Slot T name id)(ac:typeOf (.builtin id)=pure (.type "method_descriptor"))(hm:MtR X id r)(ho:PE X o to)(ha:PA X (e::es) t)
  (U:GE o name X.env (eval o X.env)=eval o X.env:=by rfl)
  (aa:((Vm cpos (Vc (e::es) X.env)).all (λx=> !x.1)&&(GD cpos (GB [] X.env)).all (λx=>x.1.isSome)
   &&decide (↑(e::es)+↑([]:oj Gx)+(if([]:oj Gx).isEmpty then 0 else 1)<30))=true:=by rfl)
  (Z:(apos.endLine==cpos.line)=true:=by rfl) (hs:Vc (e::es) X.env=(V6,eval e X.env)::Vc es X.env:=by rfl) (O:(Vm cpos (Vc es X.env)).any (·.1)=false:=by rfl):
  PE X (.Call (.Attribute o name apos) (e::es) [] cpos) (tBM X.K T r to t):=by
 exists 2,Q,I,h;refine wpAny_Call_method_late U aa Z rfl (thn (ho oq s σ H _ I h) λv s1 zq=>?_);erw[zq,x,H1,I1,r1,ty,q1];erw[Ma I1 r1 ty,h1,h2];exists T,id,pa,slot,ac,h1,h2;have hA:=ha cpos oq s1 σ H1 _ I1 q1;rw[hs] at hA⊢;refine Ue (by show(V6||(Vm cpos (Vc es X.env)).any (·.1))=V6;rw[O]<;>rfl) (Uy ?_)
 exact thn hA λus s2 ⟨vs,H2,I2,r2,q2⟩=>hm oq s2 σ H2 x vs v us Q I2 r1 r2 q2
end
nonrec def MtM (X:Cx)(id:String)(r:V->oj V->Hp->VK->Prop):Prop:=
 ∀(oq:oj (o3×Obj)) (s:o7) (σ:St) (H:Hp) (x:V) (xs:oj V) (v:o6) (us:oj o6) (Q:VK),#[I]->ik x v->im xs us->r x xs H Q->
  V7 #[X,X] X.A (call (.builtin id) (v::us)) (EP X oq σ Q) X.xe s
def im.one:∀{x:V}{us:oj o6},im [x] us->∃u,us= [u]/\ik x u
 |_,_,.cons r .nil=>[0:r]
def im.zero:∀{us:oj o6},im [] us->us= []
 |_,.nil=>rfl
variable {xs:oj V}{us:oj o6}
def im.dropLast (h:im xs us):im xs.dropLast us.dropLast:=by
 induction h with
 |nil=>exact .nil
 |cons r t O=>
  cases t with
  |nil=>exact .nil
  |cons q t'=>exact .cons r O
def Ck {α:Type}(l:oj α):l.eraseIdx (↑l-1)=l.dropLast:=by
 induction l with
 |nil=>rfl
 |cons a r O=>
  cases r with
  |nil=>rfl
  |cons b r=>
   have e:↑(a::b::r)-1=(↑(b::r)-1)+1:=by
    have h1:↑(a::b::r)=↑r+2:=rfl;have h2:↑(b::r)=↑r+1:=rfl;omega
   rw[e,List.eraseIdx_cons_succ,O]
   all_goals rfl
section
variable {X:Cx}{oq:oj (o3×Obj)}{σ:St}{H:Hp}{s:o7}{l b:o3}{xs ys zs:oj V}
def Inv.lset {its its':oj o6}{n:Nat}{f:Array o6->Array o6}{t':Nat}(I:#[I])(O:H l=u_ (.lst xs))
  (e:s.heap.get? l=u_ {cls:= .type "list",data:= .seq its.toArray n}) (U:f its.toArray=its'.toArray) (Z:im ys its') (hz:↑ys<=V9) (ht:0<t':=by ac_rfl):
  Inv X oq σ (upd H l (.lst ys)) {s with heap:=s.heap.update l (GY f),toks:=t'}:=by
 have q:=PySem.IsL.update e f;rw[U] at q;refine I.write (x:=l) (e:=l) (by rw[O];exact trivial) (.inl rfl) (λb' u hb hu=>(tu s.heap (GY f) (Ux hb)).trans hu) [_:q] ?_
 exact⟨hz,its',_,Z,q⟩
variable {its:oj o6}{t':Nat}
def Inv.lnew (I:#[I])(O:im ys its)(U:↑ys<=V9)(Z:0<t':=by ac_rfl):
  Inv X oq σ (upd H #[0,s] (.lst ys)) {s with heap:=s.heap.push {cls:= .type "list",data:= .seq its.toArray},toks:=t'}:=
 I.laid (λ_ _ q=>uh _ q) (uq _) ⟨U,its,(0),O,uJ _ rfl⟩
def Inv.fresh (I:#[I]):H #[0,s]=none:=I.hok.fresh (uq _)
def Inv.lstM (I:#[I])(O:H l=u_ (.lst xs)):↑xs<=V9/\∃(its:oj o6) (n:Nat),im xs its/\↑xs=↑its/\s.heap.get? l=u_ {cls:= .type "list",data:= .seq its.toArray n}:=by
 erw[I.hok l _ O,z,its,n,r,e];exact⟨z,its,n,r,↑r,e⟩
def Lw (h:n<=V9):TC n=false:=by
 unfold TC;exact ue ()
end
section
variable {X:Cx}
inductive Dh (x:V)(vs:List V)(H:Hp)(Q:VK):Prop
 |mk (l:_)(xs:_)(y:_)(_:x= .ref l)(_:vs= [y])(_:H l=u_ (.lst xs))(_:↑xs<V9)(_:Q .non (upd H l (.lst (xs++ [y]))))
def Yz:MtM X "list.append" Dh:=by
 exists 2,x,vs,v,us,Q,I,U,rv,h;erw[h,l,xs,y,rfl,rfl,O,Z,q];cases U;erw[rv.one,u,rfl,ru];erw[I.lstM O,z,its,n,r,hl,e];refine vH F.slot_list_append [_:e:1] F.entry_list_append (F.args_list_append_2 _ _) (PySem.list_append l its.toArray n u (by rw[uz];omega)) [e:?_]
 exists .non,_,I.lset (its':=its++ [u]) O e (by simp) (r.append (.cons ru .nil)) ?_,1,q
 rw[uB,v9];omega
inductive Of (x:V)(vs:List V)(H:Hp)(Q:VK):Prop
 |mk (l:_)(b:_)(xs:_)(zs:_)(_:x= .ref l)(_:vs= [.ref b])(_:H l=u_ (.lst xs))(_:H b=u_ (.lst zs))(_:↑xs+↑zs<=V9)(_:Q .non (upd H l (.lst (xs++zs))))
def oE:MtM X "list.extend" Of:=by
 exists 2,x,vs,v,us,Q,I,rx,rv,h;erw[h,l,b,xs,zs,rfl,rfl,Z,hB,hz,q];cases rx;erw[rv.one,u,rfl,ru];cases ru;erw[I.lstM Z,z,its,n,r,hl,e];erw[I.lstM hB,z2,O,n2,r2,aa,e2];have hsz:its.toArray.size+O.toArray.size<=sizeLine:=by rw[uz,uz];omega
 have U:¬(!its.toArray.isEmpty&&TC (its.toArray.size+O.toArray.size))=true:=by
  rw[Lw hsz,Tt];exact uc
 refine vH F.slot_list_extend [_:e:1] F.entry_list_extend (F.args_list_extend_2 _ _)
  (pO l its.toArray n b O.toArray n2 U (by rw[uz];omega) ()) [e:e2:?_]
 exists .non,_,I.lset (its':=its++O) Z e (by simp) (r.append r2) ?_,1,q
 rw[uB];omega
inductive AdE (x:V)(vs:List V)(H:Hp)(Q:VK):Prop
 |mk (l:_)(xs:_)(y:_)(_:x= .ref l)(_:vs= [])(_:H l=u_ (.lst xs))(_:xs[↑xs-1]? =u_ y)(_:Q y (upd H l (.lst xs.dropLast)))
def Mx:MtM X "list.pop" AdE:=by
 exists 2,x,vs,v,us,Q,I,rx,rv,h;erw[h,l,xs,y,rfl,rfl,Z,hy,q];cases rx;have O:=rv.zero;subst O;erw[I.lstM Z,z,its,n,r,hl,e];erw[r.get hy,u,hu,ru];have U:its.toArray[its.toArray.size-1]? =u_ u:=by
  show its.toArray[↑its-1]? =u_ u;rwa[<-Up,<-hl]
 refine vH F.slot_list_pop [_:e:1] F.entry_list_pop (F.args_list_pop_1 _) (pq l its.toArray n u U (by rw[uz];omega)) [e:?_]
 exists y,_,I.lset (its':=its.dropLast) Z e ?_ r.dropLast ?_,ru,q
 ·show its.toArray.eraseIdxIfInBounds (its.toArray.size-1)=its.dropLast.toArray;rw[uz,List.eraseIdxIfInBounds_toArray,Ck]
 ·rw[List.length_dropLast];omega
inductive AdK (x:V)(y:V)(H:Hp)(Q:VK):Prop
 |mk (l:_)(b:_)(xs:_)(zs:_)(_:x= .ref l)(_:y= .ref b)(_:H l=u_ (.lst xs))(_:H b=u_ (.lst zs))(_:↑xs+↑zs<=V9)(_:∀p,H p=U_->Q (.ref p) (upd H p (.lst (xs++zs))))
def AW:OpR X (VI .Add) AdK:=by
 exists 2,x,y,v,u,Q,I,U,Z,h;erw[h,l,b,xs,zs,rfl,rfl,hH,hB,hz,q];cases U;cases Z;erw[I.lstM hH,z,its,n,r,hl,e];erw[I.lstM hB,z2,O,n2,r2,aa,e2];refine PySem.P.add_list e e2 ?_ (by rw[uz,uz];omega)
 have ea:its.toArray++O.toArray=(its++O).toArray:=by simp
 rw[ea];exact⟨.ref _,_,I.lnew (t':=s.toks) (r.append r2) (by rw[uB];omega),1,q _ I.fresh⟩
end
section
variable {prog:o9}{w:og}{A:oh}{E:o6->o7->Prop}{s:o7}
set_option maxRecDepth 100000 in
end
section
variable {κ:Type}[DecidableEq κ]
nonrec def iW (kvs:oj (κ×V))(k:κ):om V:=(kvs.find? λkv=>decide (kv.1=k)).map (·.2)
nonrec def l8 (kvs:oj (κ×V))(k:κ)(v:V):oj (κ×V):=
 if(kvs.any λkv=>decide (kv.1=k))=v_ then kvs.map (λkv=>if kv.1=k then(kv.1,v) else kv) else kvs++ [(k,v)]
nonrec def Js (kvs:oj (κ×V))(k:κ):oj (κ×V):=kvs.filter λkv=>decide (kv.1≠k)
def kY {k:κ}:iW ([]:oj (κ×V)) k=none:=rfl
def QQ {p:κ×V}{r:oj (κ×V)}{k:κ}(e:p.1=k):iW (p::r) k=u_ p.2:=by simp[iW,v5,e]
def QJ {p:κ×V}{r:oj (κ×V)}{k:κ}(e:¬p.1=k):iW (p::r) k=iW r k:=by simp[iW,v5,e]
def JY (k:κ):∀kvs:oj (κ×V),(kvs.any λkv=>decide (kv.1=k))=(iW kvs k).isSome
 | []=>rfl
 |p::r=>by
  rw[Ut];by_cases e:p.1=k
  ·simp![QQ e,A6 e,Bool.true_or,FJ]
  ·rw[QJ e,ue e,TV];exact JY k r
def Aw (k j:κ)(y:V):∀kvs:oj (κ×V),iW (kvs.map λkv=>if kv.1=k then(kv.1,y) else kv) j=(iW kvs j).map λx=>if j=k then y else x
 | []=>rfl
 |p::r=>by
  have O:=Aw k j y r;rw[uC];by_cases h:p.1=k
  ·rw[A3 h];by_cases e:p.1=j
   ·rw[QQ (p:=(p.1,y)) e,QQ e,HP,A3 (e.symm.trans h)]
   ·rw[QJ (p:=(p.1,y)) e,QJ e,O]
  ·rw[A2 h];by_cases e:p.1=j
   ·rw[QQ (p:=p) e,QQ e,HP,A2 (λz=>h (e.trans z))]
   ·rw[QJ (p:=p) e,QJ e,O]
def ny (k j:κ)(y:V):∀kvs:oj (κ×V),iW kvs k=U_->iW (kvs++ [(k,y)]) j=if j=k then u_ y else iW kvs j
 | [],_=>by
  by_cases e:k=j
  ·rw[A3 e.symm];exact QQ (p:=(k,y)) e
  ·rw[A2 (λz=>e z.symm)];exact QJ (p:=(k,y)) e
 |p::r,hn=>by
  rw[U9];have O:¬p.1=k:=λz=>by rw[QQ z] at hn;cases hn
  rw[QJ O] at hn;have U:=ny k j y r hn;by_cases e:p.1=j
  ·rw[QQ e,QQ e,A2 (λz=>O (e.trans z))]
  ·rw[QJ e,QJ e,U]
def XQ (kvs:oj (κ×V))(k j:κ)(y:V):iW (l8 kvs k y) j=if j=k then u_ y else iW kvs j:=by
 unfold l8;by_cases a:(kvs.any λkv=>decide (kv.1=k))=v_
 ·rw[A3 a,Aw];rw[JY] at a;by_cases e:j=k
  ·erw[Option.isSome_iff_exists.mp a,x,O];rw[A3 e,e,O,HP,A3 rfl]
  ·rw[A2 e];cases iW kvs j with
   |none=>rfl
   |some x=>rw[HP,A2 e]
 ·rw[A2 a];refine ny k j y kvs ?_;rw[JY] at a;cases q:iW kvs k with
  |none=>rfl
  |some x=>rw[q] at a;exact(a rfl).elim
def yU (kvs:oj (κ×V))(k:κ)(v:V):↑(l8 kvs k v)<=↑kvs+1:=by
 unfold l8;split
 ·rw[ud];omega
 ·rw[uB,uu,Hq];omega
variable {kvs:oj (κ×V)}
def AN {k:κ}(v:V)(h:iW kvs k=U_):l8 kvs k v=kvs++ [(k,v)]:=by
 unfold l8;rw[JY,h];exact A2 ()
def nc.isSome_eq {o:om V}{u:om o6}(r:nc o u):o.isSome=u.isSome:=by
 cases o with
 |none=>cases u with
  |none=>rfl
  |some _=>exact(show False from r).elim
 |some _=>cases u with
  |none=>exact(show False from r).elim
  |some _=>rfl
def nc.getD {o:om V}{u:om o6}{d:V}{d':o6}(r:nc o u)(rd:ik d d'):ik (o.getD d) (u.getD d'):=by
 cases o with
 |none=>cases u with
  |none=>exact rd
  |some _=>exact(show False from r).elim
 |some _=>cases u with
  |none=>exact(show False from r).elim
  |some _=>exact r
variable {vs:oj (κ×o6)}
def KV.val (r:KV kvs vs)(k:κ):nc (iW kvs k) (gZ vs k):=by
 unfold KV at r
 induction r with
 |nil=>exact VJ
 | @cons p q ps qs h t ih=>
  erw[h,h1,h2];by_cases e:p.1=k
  ·have O:q.1=k:=h1.symm.trans e;have b:gZ (q::qs) k=u_ q.2:=by simp[gZ,v5,O]
   rwa[QQ e,b]
  ·have O:¬q.1=k:=λz=>e (h1.trans z);have b:gZ (q::qs) k=gZ qs k:=by simp[gZ,v5,O]
   rw[QJ e,b];exact ih
def KV.any (r:KV kvs vs)(k:κ):(kvs.any λkv=>decide (kv.1=k))=vs.any λkv=>decide (kv.1=k):=by
 unfold KV at r
 induction r with
 |nil=>rfl
 |cons h t O=>rw[Ut,Ut,O,h.1]
variable {y:V}{u:o6}
def KV.repl (r:KV kvs vs)(k:κ)(O:ik y u):
  KV (kvs.map λkv=>if kv.1=k then(kv.1,y) else kv) (vs.map λkv=>if kv.1=k then(kv.1,u) else kv):=by
 unfold KV at r⊢
 induction r with
 |nil=>exact .nil
 | @cons p q ps qs h t ih=>
  rw[uC,uC];refine .cons ?_ ih;erw[h,h1,h2];by_cases e:p.1=k
  ·rw[A3 e,A3 (h1.symm.trans e)];exact[h1:O]
  ·rw[A2 e,A2 (λz=>e (h1.trans z))];exact[h1:h2]
def KV.put (r:KV kvs vs)(k:κ)(O:ik y u):KV (l8 kvs k y) (Gu vs k u):=by
 unfold l8 Gu;rw[r.any k];by_cases e:(vs.any λkv=>decide (kv.1=k))=v_
 ·rw[A3 e,A3 e];exact r.repl k O
 ·rw[A2 e,A2 e];exact Paired.snoc r [1:O]
def KV.drop (r:KV kvs vs)(k:κ):KV (Js kvs k) (without vs k):=by
 unfold KV at r⊢;unfold Js without
 induction r with
 |nil=>exact .nil
 | @cons p q ps qs h t ih=>
  erw[h,h1,h2];rw[vO,vO];by_cases e:p.1=k
  ·have a:¬decide (p.1≠k)=true:=by simp[e]
   have b:¬decide (q.1≠k)=true:=by simp[h1.symm.trans e]
   rw[A2 a,A2 b];exact ih
  ·have O:¬q.1=k:=λz=>e (h1.trans z);have a:decide (p.1≠k)=true:=by simp[e]
   have b:decide (q.1≠k)=true:=by simp[O]
   rw[A3 a,A3 b];exact .cons [h1:h2] ih
def KV.keys (r:KV kvs vs):kvs.map (·.1)=vs.map (·.1):=by
 unfold KV at r
 induction r with
 |nil=>rfl
 |cons h t O=>rw[uC,uC,O,h.1]
def KV.length (r:KV kvs vs):↑kvs=↑vs:=Paired.length r
def BC (kvs:oj (κ×V))(k:κ):↑(Js kvs k)<=↑kvs:=HV _ _
end
variable {w:og}{u:o6}
def sX {P:o9}{k:Key}(r:ik (kV k) u):(Qu P w).is k u=true:=by
 cases k with
 |inl i=>obtain⟨t,e⟩:=(show∃t,u=gX i t from r);subst e;exact sR P w i t
 |inr x=>obtain⟨t,e⟩:=(show∃t,u=Vu x t from r);subst e;exact Wk P w x t
def oI {P:o9}{w:og}:∀{ks:oj Key}{us:oj o6},im (ks.map kV) us->ItemsAre (Qu P w) ks us
 | [],_,r=>by rw[U7] at r;cases r;exact .nil
 |k::ks,_,r=>by
  rw[uC] at r;cases r with
  |cons h t=>exact .cons (sX h) (oI t)
noncomputable abbrev KT (H:Hp):oj (oj Key×V)->oj (oj Key×o3×o6)->Prop:=Paired λp q=>p.1=q.1/\H q.2.1=u_ (.tup (p.1.map kV))/\ik p.2 q.2.2
variable {H:Hp}
def KT.val {kvs:oj (oj Key×V)}{xs:oj (oj Key×o3×o6)}(r:KT H kvs xs)(k:oj Key):nc (iW kvs k) ((VZ xs k).map (·.2)):=by
 induction r with
 |nil=>exact VJ
 | @cons p q ps qs h t ih=>
  erw[h,h1,_,h2];by_cases e:p.1=k
  ·have O:q.1=k:=h1.symm.trans e;have b:VZ (q::qs) k=u_ q.2:=by simp[VZ,v5,O]
   rwa[QQ e,b]
  ·have O:¬q.1=k:=λz=>e (h1.trans z);have b:VZ (q::qs) k=VZ qs k:=by simp[VZ,v5,O]
   rw[QJ e,b];exact ih
variable {y:V}
def KT.repl {kvs:oj (oj Key×V)}{xs:oj (oj Key×o3×o6)}(r:KT H kvs xs)(k:oj Key)(O:ik y u):
  KT H (kvs.map λkv=>if kv.1=k then(kv.1,y) else kv) (xs.map (putAt k u)):=by
 induction r with
 |nil=>exact .nil
 | @cons p q ps qs h t ih=>
  rw[uC,uC];refine .cons ?_ ih;erw[h,h1,h2,h3];unfold putAt;by_cases e:p.1=k
  ·rw[A3 e,A3 (h1.symm.trans e)];exact[h1:h2:O]
  ·rw[A2 e,A2 (λz=>e (h1.trans z))];exact[h1:h2:h3]
variable {b:o3}
def KT.put {kvs:oj (oj Key×V)}{xs:oj (oj Key×o3×o6)}(r:KT H kvs xs)(k:oj Key)(U:H b=u_ (.tup (k.map kV)))(O:ik y u):
  KT H (l8 kvs k y) (storedH xs k b u):=by
 have e:(kvs.any λkv=>decide (kv.1=k))=(VZ xs k).isSome:=by
  rw[JY,(r.val k).isSome_eq,Tl]
 unfold l8 storedH;rw[e];by_cases q:(VZ xs k).isSome=v_
 ·rw[A3 q,A3 q];exact r.repl k O
 ·rw[A2 q,A2 q];exact Paired.snoc r [1:U:O]
variable {H':Hp}
def KT.keeps {kvs:oj (oj Key×V)}{xs:oj (oj Key×o3×o6)}(r:KT H kvs xs)(O:∀b ys,H b=u_ (.tup ys)->H' b=u_ (.tup ys)):KT H' kvs xs:=
 Paired.mapP r λ_ _ z=>[z.1:O _ _ z.2.1:z.2.2]
section
variable {P:o9}{w:og}{H:Hp}{h:o8}{a:o3}
def Aak {u:HO}(ok:HOk P w H h)(e:Rd H a u):yf P w H h a u:=e.ok ok
def Kx {kvs:oj (Key×V)}(ok:HOk P w H h)(e:Rd H a (.dK kvs)):↑kvs<=V9/\(a==Vv)=V6/\∃vs,KV kvs vs/\h.DictOf (Qu P w) a vs:=
 show yf P w H h a (.dK kvs) from Aak ok e
def Pw {kvs:oj (Key×V)}(ok:HOk P w H h)(e:H a=u_ (.dK kvs)):↑kvs<=V9/\(a==Vv)=V6/\∃vs,KV kvs vs/\h.DictOf (Qu P w) a vs:=Kx ok (.inl e)
def W1 {ks:oj Key}(ok:HOk P w H h)(e:H a=u_ (.tup (ks.map kV))):(GK (Qu P w)).is h ks a:=by
 obtain⟨_,its,r,o,h1,h2,n,h3⟩:=(show yf P w H h a (.tup (ks.map kV)) from ok a _ e)
 exact⟨o,its.toArray,n,h1,h2,h3,by simpa using oI r⟩
def Ai {kvs:oj (oj Key×V)}(ok:HOk P w H h)(e:Rd H a (.dT kvs)):↑kvs<=V9/\(a==Vv)=V6/\
  ∃xs,KT H kvs xs/\h.DictOfH (GK (Qu P w)) a xs:=by
 obtain⟨z,y,xs,r,o,es,ep,h1,h2,h3,h4,h5⟩:=(show yf P w H h a (.dT kvs) from Aak ok e)
 exists z,y,xs,r,o,es,ep,h1,h2,h3,h4,λx O=>?_,h5;have all:∀{l:oj (oj Key×V)}{m:oj (oj Key×o3×o6)},KT H l m->∀x∈m,(GK (Qu P w)).is h x.1 x.2.1:=by
  intro l m q
  induction q with
  |nil=>intro x O;exact nomatch O
  | @cons p q ps qs hq t ih=>
   intro x O;rcases A9.mp O with e|O
   ·subst e;exact W1 ok (by rw[<-hq.1];exact hq.2.1)
   ·exact ih x O
 exact all r x O
def AcK {kvs:oj (oj Key×V)}(ok:HOk P w H h)(e:H a=u_ (.dT kvs)):↑kvs<=V9/\(a==Vv)=V6/\
  ∃xs,KT H kvs xs/\h.DictOfH (GK (Qu P w)) a xs:=Ai ok (.inl e)
end
nonrec def m9 (H:Hp)(a:o3)(y:V)(r:om V):Prop:=
 (∃kvs k,Rd H a (.dK kvs)/\y=kV k/\r=iW kvs k)∨∃kvs k b,Rd H a (.dT kvs)/\y= .ref b/\H b=u_ (.tup (k.map kV))/\r=iW kvs k
nonrec def Il (H:Hp)(a:o3)(y v:V)(H':Hp):Prop:=
 (∃kvs k,H a=u_ (.dK kvs)/\y=kV k/\↑kvs<V9/\H'=upd H a (.dK (l8 kvs k v)))∨
 ∃kvs k b,H a=u_ (.dT kvs)/\y= .ref b/\H b=u_ (.tup (k.map kV))/\↑kvs<V9/\H'=upd H a (.dT (l8 kvs k v))
def m9.k {H:Hp}{a:o3}{kvs:oj (Key×V)}{k:Key}(e:H a=u_ (.dK kvs)):m9 H a (kV k) (iW kvs k):= .inl ⟨kvs,k,.inl e,1,1⟩
def Il.k {H:Hp}{a:o3}{kvs:oj (Key×V)}{k:Key}{v:V}(e:H a=u_ (.dK kvs))(O:↑kvs<V9):Il H a (kV k) v (upd H a (.dK (l8 kvs k v))):= .inl ⟨kvs,k,e,1,O,1⟩
section
variable {X:Cx}{oq:oj (o3×Obj)}{σ:St}{H:Hp}{s:o7}{a:o3}{y v:V}{u r:o6}{o:om V}{A:oh}{E:o6->o7->Prop}
def Inv.big (I:#[I]):Vv<#[0,s]:=by
 have h:Vw<#[0,s]:=(I.mod.glob.keeps I.bk).lt;exact HG () h
def E1 {Q:o6->o7->Prop}(hu:A.units+1<Vg)(I:#[I])(g:m9 H a y (u_ v))(ry:ik y u)(h:∀U s',Inv X oq σ H s'->ik v U->Q U s'):
  V7 #[X,X] A (VO (.ref a) u) Q E s:=by
 rcases g with⟨kvs,k,e,Z,l⟩|⟨kvs,k,b,e,Z,eb,l⟩
 ·subst Z;erw[Kx I.hok e,z,hd,vs,rel,dd];obtain⟨U,hw,O⟩:=nc.some_of (v:=v) (o:=gZ vs k) (by rw[l];exact rel.val k)
  exact r_ (sX ry) dd.mapOf hw (h U _ (I.tok _) O)
 ·subst Z;cases(show u=Ve b from ry)
  erw[Ai I.hok e,z,hd,xs,rel,dd];obtain⟨U,hw,O⟩:=nc.some_of (v:=v) (o:=(VZ xs k).map (·.2)) (by rw[l];exact rel.val k)
  erw[Option.map_eq_some_iff.mp hw,p,hp,aa];refine wpAny_getItem_heap (Ui hu) (W1 I.hok eb) dd hp ?_;rw[aa];exact h U _ (I.tok _) O
def AdS {Q:o6->o7->Prop}(Z:A.units+1<Vg)(I:#[I])(g:m9 H a y o)(U:ik y u)(h:∀s',Inv X oq σ H s'->Q (.bool o.isSome) s'):
  V7 #[X,X] A (Vj .In u (.ref a)) Q E s:=by
 rcases g with⟨kvs,k,e,O,l⟩|⟨kvs,k,b,e,O,eb,l⟩
 ·subst O;erw[Kx I.hok e,z,hd,vs,rel,dd];refine FL (sX U) hd dd.mapOf ?_;rw[<-(rel.val k).isSome_eq,<-l];exact h _ (I.tok _)
 ·subst O;cases(show u=Ve b from U)
  erw[Ai I.hok e,z,hd,xs,rel,dd];refine wpAny_in_heap (Ui Z) (W1 I.hok eb) hd dd ?_;have q:=(rel.val k).isSome_eq;rw[Tl] at q;rw[<-q,<-l];exact h _ (I.tok _)
def Px {Q:o6->o7->Prop}(Z:A.units+1<Vg)(I:#[I])(g:m9 H a y o)(U:ik y u)(h:∀s',Inv X oq σ H s'->Q (.bool (!o.isSome)) s'):
  V7 #[X,X] A (Vj .NotIn u (.ref a)) Q E s:=by
 rcases g with⟨kvs,k,e,O,l⟩|⟨kvs,k,b,e,O,eb,l⟩
 ·subst O;erw[Kx I.hok e,z,hd,vs,rel,dd];refine FA (sX U) hd dd.mapOf ?_;rw[<-(rel.val k).isSome_eq,<-l];exact h _ (I.tok _)
 ·subst O;cases(show u=Ve b from U)
  erw[Ai I.hok e,z,hd,xs,rel,dd];refine wpAny_notIn_heap (Ui Z) (W1 I.hok eb) hd dd ?_;have q:=(rel.val k).isSome_eq;rw[Tl] at q;rw[<-q,<-l];exact h _ (I.tok _)
variable {h':o8}{t':Nat}
def Am {ob:HO}(I:#[I])(mu:Mut (H a))(O:Gr a s.heap h')(U:∃q,h'.get? a=u_ q)(new:yf X.prog X.w (upd H a ob) h' a ob)(ht:0<t':=by ac_rfl):
  Inv X oq σ (upd H a ob) {s with heap:=h',toks:=t'}:=
 I.write (x:=a) (e:=a) mu (.inl rfl) (λb q Z z=>(O.2 b Z).trans z) U new
def BD {P:o9}{kvs:oj (Key×V)}{vs:oj (Key×o6)}(z:↑kvs<=V9)(hd:(a==Vv)=V6)(rel:KV kvs vs)(dd:h'.DictOf (Qu P w) a vs):
  yf P w H' h' a (.dK kvs):=⟨z,hd,vs,rel,dd⟩
def EZ {Q:Unit->o7->Prop}(hu:A.units+1<Vg)(I:#[I])(g:Il H a y v H')(ry:ik y u)(rv:ik v r)(h:∀s',Inv X oq σ H' s'->Q VH s'):
  V7 #[X,X] A (tY (.ref a) u r) Q E s:=by
 rcases g with⟨kvs,k,e,Z,l,eH⟩|⟨kvs,k,b,e,Z,eb,l,eH⟩
 ·subst Z eH;erw[Pw I.hok e,z,hd,vs,rel,dd];have hz:↑vs<=sizeLine:=by rwa[<-↑rel]
  have hl:↑(l8 kvs k v)<=sizeLine:=by have:=yU kvs k v;omega
  refine wpAny_setItem_pairs (hsz:=hz) (sX ry) dd λh' O hs=>h _ ?_;have he:∃q,h'.get? a=u_ q:=let⟨q,_,_,U,_⟩:=O;[q:U];exact Am I (by rw[e];exact VJ) hs he (BD hl hd (rel.put k rv) O)
 ·subst Z eH;cases(show u=Ve b from ry)
  erw[AcK I.hok e,z,hd,xs,rel,dd];have hz:↑xs<=sizeLine:=by rwa[<-Paired.length rel]
  have hl:↑(l8 kvs k v)<=sizeLine:=by have:=yU kvs k v;omega
  refine wpAny_setItem_heap (hsz:=hz) (Ui hu) (W1 I.hok eb) dd λh' O hs=>h _ ?_;erw[O,q,es,ep,U,h2,h3,h4,_,h5];refine Am I (by rw[e];exact VJ) hs [q:U] ⟨hl,hd,_,(rel.put k eb rv).keeps λc ys ec=>?_,q,es,ep,U,h2,h3,h4,h5⟩
  rw[qj (Acs ec e (λz=>nomatch z))];exact ec
end
section
variable {X:Cx}{oq:oj (o3×Obj)}{σ:St}{H:Hp}{s:o7}{a:o3}{kvs:oj (Key×V)}{k:Key}{u:o6}{A:oh}{E:o6->o7->Prop}
def AcL {v:V}{more:oj o6}{Q:o6->o7->Prop}(I:#[I])(e:H a=u_ (.dK kvs))(Z:ik (kV k) u)(l:iW kvs k=u_ v)(hm:more= []∨∃x,more= [x])
  (h:∀O s',Inv X oq σ (upd H a (.dK (Js kvs k))) s'->ik v O->Q O s'):V7 #[X,X] A (call (.builtin "dict.pop") (.ref a::u::more)) Q E s:=by
 erw[Pw I.hok e,z,hd,vs,rel,dd];obtain⟨O,hw,aa⟩:=nc.some_of (v:=v) (o:=gZ vs k) (by rw[<-l];exact rel.val k)
 have hp:(keyPart u).isSome=true:=by
  cases k with
  |inl i=>obtain⟨t,q⟩:=(show∃t,u=gX i t from Z);subst q;rfl
  |inr x=>obtain⟨t,q⟩:=(show∃t,u=Vu x t from Z);subst q;rfl
 have ha:argsOk "dict.pop" ⟨.ref a::u::more,[]⟩:=by
  rcases hm with q|⟨x,q⟩
  ·subst q;exact PySem.F.args_dict_pop_2 _ _
  ·subst q;exact PySem.F.args_dict_pop_3 _ _ _
 refine HZ PySem.F.slot_dict_pop dd.typeIs PySem.F.entry_dict_pop ha (meets_dict_pop_there (Qu X.prog X.w) a (sX Z) more hm hp)
  ⟨vs,O,dd,by rwa[<-↑rel],hw,λh' U hs=>h O _ ?_ aa⟩
 have he:∃q,h'.get? a=u_ q:=let⟨q,_,_,hq,_⟩:=U;[q:hq];exact Am I (by rw[e];exact VJ) hs he (BD (uT (BC kvs k) z) hd (rel.drop k) U)
def AcM {Q:o6->o7->Prop}(I:#[I])(e:Rd H a (.dK kvs))(h:∀t s',Inv X oq σ H s'->Q (.int ↑kvs t) s'):V7 #[X,X] A (call (.builtin "len") [.ref a]) Q E s:=by
 erw[Kx I.hok e,z,hd,vs,rel,dd];refine call_len_dict hd dd (by rw[<-↑rel];rw[uI] at z;omega) ?_
 rw[<-↑rel];exact h _ _ (I.tok _)
end
nonrec def Ado (i:Expr):Prop:=∀ov iv,Hk i V6 ov iv=HE [ov,iv] (VO ov iv)
def Ng {prog:o9}{w:og}{A:oh}{E:o6->o7->Prop}{s:o7}{env:Env}{value slice:Expr}{pos:Pos}{T id:String}{Q:o6->o7->Prop}
  (hl:Hz (.type T) "__getitem__"=pure (u_ (.builtin id))) (hs:Ado slice)
  (h:V7 #[w,w] A (eval value env) (λo Z=>V7 #[w,w] A (eval slice env) (λi O=>O.TypeIs o T/\V7 #[w,w] A (VO o i) Q E O) E Z) E s):
  V7 #[w,w] A (eval (.Subscript value slice pos) env) Q E s:=by
 refine HR (vD h (λo Z h₁=>vD h₁ (λi O U=>?_) λ_ _ x=>x) λ_ _ x=>x);erw[U,hT,U];unfold HF;refine A4 ?_;rw[getitemInPython_of_ne hT.not_modules];refine A4 (wpAny_specialOf hT hl ?_);have fin:V7 #[w,w] A (Hk slice V6 o i) (λr s₃=>V7 #[w,w] A (letTemporaryGo value o r>>=λ_=>pure r) Q E s₃) E O:=by
  rw[hs o i];exact wpAny_operating (vD U (λr s₃ h₃=>A4 (wpAny_letTemporaryGo (Vb h₃))) λ_ _ x=>x)
 first
  |exact Vb (A4 fin)
  |exact A4 (Vb (A4 fin))
  |exact A4 fin
variable {X:Cx}{oq:oj (o3×Obj)}{σ:St}{s:o7}{a:o3}
def Al {o:om V}(I:#[I])(g:m9 H a y o):s.TypeIs (.ref a) "dict":=by
 rcases g with⟨kvs,k,e,_,_⟩|⟨kvs,k,b,e,_,_,_⟩
 ·erw[Kx I.hok e,_,_,vs,_,dd];exact dd.typeIs
 ·erw[Ai I.hok e,_,_,xs,_,dd];exact dd.typeIs
inductive MW (Q:VK)(x:V)(y:V)(H2:Hp):Prop
 |mk (a:_)(v:_)(_:x= .ref a)(_:m9 H2 a y (u_ v))(_:Q v H2)
nonrec def Ab5 (td ty:TE):TE:=λσ H Q=>td σ H λx H1=>ty σ H1 λy H2=>MW Q x y H2
inductive AcU (Q:VK)(y:V)(x:V)(H2:Hp):Prop
 |mk (a:_)(o:_)(_:x= .ref a)(_:m9 H2 a y o)(_:Q (.bl o.isSome) H2)
nonrec def Adv (ty td:TE):TE:=λσ H Q=>ty σ H λy H1=>td σ H1 λx H2=>AcU Q y x H2
inductive L3 (Q:VK)(y:V)(x:V)(H2:Hp):Prop
 |mk (a:_)(o:_)(_:x= .ref a)(_:m9 H2 a y o)(_:Q (.bl (!o.isSome)) H2)
nonrec def Nd (ty td:TE):TE:=λσ H Q=>ty σ H λy H1=>td σ H1 λx H2=>L3 Q y x H2
inductive AbD (D:mU)(σ:St)(v:V)(x:V)(y:V)(H3:Hp):Prop
 |mk (a:_)(H4:_)(_:x= .ref a)(_:Il H3 a y v H4)(_:D.nx σ H4)
nonrec def Acf (td ty tv:TE):TS:=λD σ H=>tv σ H λv H1=>td σ H1 λx H2=>ty σ H2 λy H3=>AbD D σ v x y H3
section
variable {X:Cx}{o i e value:Expr}{pos pos' tpos:Pos}{td ty tv:TE}
def QO (Z:X.A.units+1<Vg)(ho:PE X o td)(hi:PE X i ty)(hs:Ado i):PE X (.Subscript o i pos) (Ab5 td ty):=by
 exists 2,Q,I,h;refine Ng PySem.F.slot_dict_getitem.lookup hs (thn (ho oq s σ H _ I h) λu s1 ⟨x,H1,I1,rx,q1⟩=>thn (hi oq s1 σ H1 _ I1 q1) λiv s2 zq=>?_);erw[zq,y,H2,U,ry,a,v,ex,g,q2];subst ex;obtain rfl:u=Ve a:=rx;exact[Al U g:E1 Z U g ry λw' s3 I3 O=>⟨v,H2,I3,O,q2⟩]
def Dp (O:X.A.units+1<Vg)(hi:PE X i ty)(U:PE X o td):PC X .In i o (Adv ty td):=by
 exists 2,Q,I,h;refine thn (hi oq s σ H _ I h) λiv s1 ⟨y,H1,Z,ry,q1⟩=>thn (U oq s1 σ H1 _ Z q1) λu s2 zq=>?_;erw[zq,x,H2,I2,rx,a,ov,ex,g,q2];subst ex;obtain rfl:u=Ve a:=rx;exact AdS O I2 g ry λs3 I3=>⟨.bl ov.isSome,H2,I3,1,q2⟩
def Do (O:X.A.units+1<Vg)(hi:PE X i ty)(U:PE X o td):PC X .NotIn i o (Nd ty td):=by
 exists 2,Q,I,h;refine thn (hi oq s σ H _ I h) λiv s1 ⟨y,H1,Z,ry,q1⟩=>thn (U oq s1 σ H1 _ Z q1) λu s2 zq=>?_;erw[zq,x,H2,I2,rx,a,ov,ex,g,q2];subst ex;obtain rfl:u=Ve a:=rx;exact Px O I2 g ry λs3 I3=>⟨.bl (!ov.isSome),H2,I3,1,q2⟩
def Xh (O:X.A.units+1<Vg)(U:PE X o td)(hi:PE X i ty)(Z:PE X value tv)(hs:hZ value (u_ (.Subscript o i pos')) pos.line X.env=pure V6):
  PS X (.Assign [.Subscript o i pos'] value pos) (Acf td ty tv):=by
 exists 2,D,I,h;refine wpAny_Assign_Subscript (thn (Z oq s σ H _ I h) λr s1 ⟨v,H1,I1,rv,q1⟩=>thn (U oq s1 σ H1 _ I1 q1) λu s2 ⟨x,H2,I2,rx,q2⟩=>thn (hi oq s2 σ H2 _ I2 q2) λiv s3 zq=>?_) hs;erw[zq,y,H3,I3,ry,a,H4,ex,g,q3];subst ex;obtain rfl:u=Ve a:=rx;exact EZ O I3 g ry rv λs4 I4=>⟨σ,H4,I4,q3⟩
end
def LU {P:o9}(h:o8)(O:Vv<h.objs.size):yf P w H (h.push {cls:= .type "dict",data:= .dict #[]}) h.objs.size (.dK []):=
 ⟨uP _,beq_eq_false_iff_ne.mpr (Ux (uR O)),[],.nil,TU h⟩
nonrec def SN:TE:=λ_ H Q=>∀p,H p=U_->Q (.ref p) (upd H p (.dK []))
section
variable {X:Cx}{pos:Pos}
def ZW:PE X (.Dict [] [] pos) SN:=λoq s σ H Q I h=>
 wpAny_Dict_empty ⟨.ref #[0,s],_,I.laid (a:=#[0,s]) (o:= .dK []) (t':=s.toks) (λ_ _ q=>uh _ q) (uq _) (LU s.heap I.big),1,h _ (I.hok.fresh (uq _))⟩
end
structure M1 (X:Cx)(o:Expr)(m:Str)(apos:Pos)(e:Expr)(cpos:Pos):Prop where
 base:GE o m X.env (eval o X.env)=eval o X.env
 few:((Vm cpos (Vc [e] X.env)).all (λx=> !x.1)&&(GD cpos (GB [] X.env)).all (λx=>x.1.isSome)
  &&decide (↑([e]:oj Expr)+↑([]:oj Gx)+(if([]:oj Gx).isEmpty then 0 else 1)<30))=v_
 line:(apos.endLine==cpos.line)=v_
 trees:Vm cpos (Vc [e] X.env)= [(V6,eval e X.env)]
nonrec def IsD (H:Hp)(a:o3):Prop:=(∃kvs,Rd H a (.dK kvs))∨∃kvs,Rd H a (.dT kvs)
def MG (I:#[I])(d:IsD H a):
  s.TypeIs (.ref a) "dict"/\(∀b,Ve a= .ref b->∃ob,s.heap.get? b=u_ ob/\ob.dict=U_)/\(a==Vv)=false:=by
 rcases d with⟨kvs,e⟩|⟨kvs,e⟩
 ·erw[Kx I.hok e,_,hd,vs,_,dd];exists dd.typeIs,λb q=>?_,hd;cases q;erw[dd,ob,_,_,h1,h2,_];exact[ob:h1:h2.2.1]
 ·erw[Ai I.hok e,_,hd,xs,_,dd];exists dd.typeIs,λb q=>?_,hd;cases q;erw[dd,ob,_,_,h1,h2,_];exact[ob:h1:h2.2.1]
section
variable {X:Cx}{oq:oj (o3×Obj)}{σ:St}{H:Hp}{s:o7}{a:o3}{y d:V}{u r:o6}{o:om V}{A:oh}{E:o6->o7->Prop}
def Abj {Q:o6->o7->Prop}(hu:A.units+1<Vg)(I:#[I])(g:m9 H a y o)(U:ik y u)(h:∀Z s',Inv X oq σ H s'->ik (o.getD .non) Z->Q Z s'):
  V7 #[X,X] A (call (.builtin "dict.get") [.ref a,u]) Q E s:=by
 rcases g with⟨kvs,k,e,O,l⟩|⟨kvs,k,b,e,O,eb,l⟩
 ·subst O;erw[Kx I.hok e,z,hd,vs,rel,dd];refine HZ PySem.F.slot_dict_get dd.typeIs PySem.F.entry_dict_get (PySem.F.args_dict_get_2 _ _) (meets_dict_get (Qu X.prog X.w) a (sX U) hd) [_:dd.mapOf:h _ _ (I.tok _) ?_];rw[l];exact(rel.val k).getD rfl
 ·subst O;cases(show u=Ve b from U)
  erw[Ai I.hok e,z,hd,xs,rel,dd];refine HZ PySem.F.slot_dict_get dd.typeIs PySem.F.entry_dict_get (PySem.F.args_dict_get_2 _ _) (meetsH_dict_get (GK (Qu X.prog X.w)) a b hd) ⟨Ui hu,k,xs,W1 I.hok eb,dd,h _ _ (I.tok _) ?_⟩;rw[l];exact(rel.val k).getD rfl
end
inductive PY (ty:TE)(σ:St)(Q:VK)(x:V)(H1:Hp):Prop
 |mk (a:_)(_:x= .ref a)(_:IsD H1 a)(_:ty σ H1 λy H2=>∃o,m9 H2 a y o/\Q (o.getD .non) H2)
nonrec def SO (td ty:TE):TE:=λσ H Q=>td σ H λx H1=>PY ty σ Q x H1
inductive PX (ty:TE)(σ:St)(Q:VK)(x:V)(H1:Hp):Prop
 |mk (a:_)(_:x= .ref a)(_:IsD H1 a)(_:ty σ H1 λy H2=>∃kvs k v,H2 a=u_ (.dK kvs)/\y=kV k/\iW kvs k=u_ v/\Q v (upd H2 a (.dK (Js kvs k))))
nonrec def SM (td ty:TE):TE:=λσ H Q=>td σ H λx H1=>PX ty σ Q x H1
section
variable {X:Cx}{o e f:Expr}{apos cpos:Pos}{td ty tx:TE}
def AV (Z:X.A.units+1<Vg)(ho:PE X o td)(he:PE X e ty)(m:M1 X o "get" apos e cpos):PE X (.Call (.Attribute o "get" apos) [e] [] cpos) (SO td ty):=by
 exists 2,Q,I,h;refine RM m.base m.few m.line PySem.F.plainAttrs_dict PySem.F.slot_dict_get PySem.F.type_dict_get (thn (ho oq s σ H _ I h) λu s1 zq=>?_);erw[zq,x,H1,U,rx,a,ex,d,q1];subst ex;obtain rfl:u=Ve a:=rx;erw[MG U d,t1,t2,_];exists t1,t2;rw[m.trees];refine Ue rfl (Uy (tU (thn (he oq s1 σ H1 _ U q1) λiv s2 ⟨y,H2,I2,ry,ov,g,q2⟩=>TH ?_)));exact Abj Z I2 g ry λw' s3 I3 O=>⟨_,H2,I3,O,q2⟩
def K0 (Z:PE X o td)(he:PE X e ty)(m:M1 X o "pop" apos e cpos):PE X (.Call (.Attribute o "pop" apos) [e] [] cpos) (SM td ty):=by
 exists 2,Q,I,h;refine RM m.base m.few m.line PySem.F.plainAttrs_dict PySem.F.slot_dict_pop PySem.F.type_dict_pop (thn (Z oq s σ H _ I h) λu s1 zq=>?_);erw[zq,x,H1,U,rx,a,ex,d,q1];subst ex;obtain rfl:u=Ve a:=rx;erw[MG U d,t1,t2,_];exists t1,t2;rw[m.trees];refine Ue rfl (Uy (tU (thn (he oq s1 σ H1 _ U q1) λiv s2 ⟨y,H2,I2,ry,kvs,k,v,ea,ey,l,q2⟩=>TH ?_)));subst ey;exact AcL I2 ea ry l (.inl rfl) λw' s3 I3 O=>⟨v,_,I3,O,q2⟩
end
end L2
namespace Att
open PySem PySem.W PySem.Calls PyProof.Rows
variable {h:o8}
def wx {P:HB}:∀(ns:oj Int) (vs:oj o6),WellAll P h vs (ns.map WData.int)->Gq vs ns:=by
 intro ns
 induction ns with
 |nil=>
  intro vs w;rw[U7] at w;cases w;exact .nil
 |cons n ns O=>
  intro vs w;rw[uC] at w;cases w with
  |cons a b=>
   cases a;exact .cons _ _ (O _ b)
def C7 {l:OpenLaw}{n:Nat}(hn:l.most=u_ n){P:HB}{h:o8}{args:oj WData}{O:oj o6}
  (U:l.row.toRowW.claim.pre args=v_) (ac:WellAll P h O args):
  ∃a vs ns,O= [Ve a]/\args= [WData.list (ns.map WData.int)]/\h.get? a=u_ {cls:= .type "list",data:= .seq vs.toArray}/\Gq vs ns/\↑ns<=n:=by
 have ad:WShape.hasAll [] args [.list .int]=true:=(pre_splitW U).1;have hc:l.pre.holds [] {args:=args}=true:=(pre_splitW U).2;erw[hasAllW_cons ad,d,r,rfl,h1,h2];obtain rfl:=hasAllW_nil h2;erw[hasW_list h1,xs,rfl,h3];erw[items_int h3,ns,rfl];have Z:↑ns<=n:=by
  unfold OpenLaw.pre at hc;have h4:(WTm.not (.lt (.lit (.int (n:Int))) (.len (.arg 0)))).holds [] {args:= [.list (ns.map .int)]}=true:=by
   have h4:=(holds_andW hc).1;rwa[hn] at h4
  have h5:=condW_of h4 (w_not (w_lt w_lit (w_len_list (w_arg rfl))));rw[ud] at h5;refine Nat.le_of_not_lt λq=>?_;have q':(n:Int)<((↑ns:Nat):Int):=by omega
  first
   |(rw[A6 q'] at h5;exact A7 h5 ())
   |(simp at h5;omega)
 cases ac with
 |cons w1 w2=>
  cases w2;cases w1 with
  |list ho aa=>exact⟨_,_,ns,1,1,ho,wx ns _ aa,Z⟩
def Dk (l:OpenLaw)(args:oj WData):l.row.toRowW.claim.post args (.bool v_) args=true:=
 postW_of (r:=l.row.toRowW) (X:=(v_==v_))
  (show WShape.has [] (.bool v_) .bool=v_ by first|rfl|decide|simp[WShape.has,WShape.arms,WShape.armsAll])
  (show(WTm.eq .res (.lit (.bool v_))).value [] {args:=args,res:=u_ (.bool v_),after:=args}=u_ (.bool (v_==v_)) from w_eq_bool (w_res rfl) w_lit) rfl
def attach_call {l:OpenLaw}{n:Nat}{q:o9}{O:oj Str}{XP:(Str->om o6)->o8->Prop}{YP:og->o8->Prop}{d:DefRec}
  (hn:l.most=u_ n) (ad:d.params.defaults= [])
  (call:∀(w:og) (s₀ U:o7) (mg mb:Str->om o6) (fa:o3) (o:Obj) (pm cd doc:o6) (a:o3) (vs:oj o6) (ns:oj Int),
   Ground q O [] XP w s₀ mg mb U.heap->YP w U.heap->
   U.heap.get? fa=u_ o->o.data= .func (docDef d.name d.params d.body d.scope pm cd doc)->U.heap.CodeRec cd d.name->mg d.name=u_ (.ref fa)->
   U.heap.get? a=u_ {cls:= .type "list",data:= .seq vs.toArray}->Gq vs ns->↑ns<=n->U.gens= #[]->
   VA (Vk l.prog w) G9 (.call (.ref fa) [[.ref a]:[]]) (λr s'=>r= .ok (.ret (.bool v_))/\OldK U.heap s'.heap/\s'.os=U.os/\VV s'.gens) U):
  WalkO q O XP YP l.row.toRowW d [] (λf vs=>PySem.call f vs):=by
 intro w s₀ U mg mb G Y fa o pm cd doc dV kV ho hd ae hD af hg args ag as hpre hlay hrd hwl hlo;obtain rfl:dV= .none:=Dflts.none hD ad;obtain rfl:kV= .none:=Dflts.noKw hD;erw[C7 hn hpre hwl,a,vs,ns,rfl,rfl,aa,Z,ac];refine enter_call (UY (call w s₀ U mg mb fa o pm cd doc a vs ns G Y ho (fd_plain hd) ae af aa Z ac hg) λr s' hq=>?_);erw[hq,rfl,h2,h3,h4];exact⟨.inl ⟨.bool v_,.bool v_,[],1,λ_=>rfl,.bool v_,Dk l _,λ_=>[rH:λ_ hm=>(nomatch hm)]⟩,h2,h3,h4⟩
end Att
namespace L2
open PySem PySem.Spec PyProof.Rows
def nw:∀{vs:oj o6}{ns:oj Int},Gq vs ns->im (ns.map V.int) vs
 |_,_,.nil=> .nil
 |_,_,.cons n t h=> .cons [t:1] (nw h)
nonrec def AbN (H:Hp):Prop:=∀b,H b=U_∨∃o xs,H b=u_ (.frz o (.lst xs))
def LC {P:o9}{w:og}{K:o0}{mg mb:Str->om o6}{CX:CXT}{k:Nat}{fa a:o3}{fd:V8}{x:Str}{sp:Sp}{O:o7}{vs:oj o6}{ns:oj Int}
  (KX:K.In O.heap) (ae:O.heap.Ns Vw mg) (Z:O.heap.Ns Tc mb) (am:∀x:Str,x≠"__name__"->mb x=Gj x) (af:O.heap.NoLimit) (hg:O.gens= #[])
  (ha:O.heap.get? a=u_ {cls:= .type "list",data:= .seq vs.toArray}) (hi:Gq vs ns) (hl:↑ns<=V9) (hr:mr k G9)
  (F:∀base:o8,K.In base->base.Ns Vw mg->FnOk P w K mg base CX k fa fd [x] sp) (ad:∀(s:o7) (u:o6),GM s fd [[u]:[]] [(x,u)])
  (ag:fd.scope.names.lookup x=u_ .local) (ao:∀H:Hp,AbN H->SqL K H a (ns.map V.int)->sp [.ref a] H (λv _=>v= .bl v_) λ_ _ _=>False)
  (ap:∀H e s',CX [] H O (λ_ _ _=>False) e s'->False):
  VA (Vk P w) G9 (.call (.ref fa) [[.ref a]:[]]) (λr s'=>r= .ok (.ret (.bool v_))/\OldK O.heap s'.heap/\s'.os=O.os/\VV s'.gens) O:=by
 have rv:=nw hi;have ah:=↑hi;have ac:∀H:Hp,AbN H->SqL K H a (ns.map V.int)->HOk P w H O.heap->(∀b,H b≠U_->b=a)->(H a≠U_->K.lookup a=U_)->
   VA (Vk P w) G9 (.call (.ref fa) [[.ref a]:[]]) (λr s'=>r= .ok (.ret (.bool v_))/\OldK O.heap s'.heap/\s'.os=O.os/\VV s'.gens) O:=by
  intro H hO hS hok hA hK;have U:∀{b:o3}{o:Obj},O.heap.get? b=u_ o->H b=U_->(LK O.heap H).get? b=u_ o:=λe n=>LJ e n;have aq:∀{b:o3}{o:Obj}{es:Array GO}{ep:Nat},O.heap.get? b=u_ o->o.data= .dict es ep->H b=none:=λ{b o es ep} e d=>by
   cases q:H b with
   |none=>rfl
   |some u=>
    have e':b=a:=hA b (by rw[q];simp)
    subst e';rw[ha] at e;cases e;have d':Data.seq vs.toArray _=Data.dict es ep:=d;cases d'
  have aa:∀{b:o3}{m:Str->om o6},O.heap.Ns b m->(LK O.heap H).Ns b m:=λ{b m} ⟨o,es,ep,e,d,r⟩=>⟨o,es,ep,U e (aq e d),d,r⟩;have ak:K.In (LK O.heap H):=λb o e=>U (KX b o e) (by
   cases q:H b with
   |none=>rfl
   |some u=>
    have e':b=a:=hA b (by rw[q];simp)
    subst e';rw[hK (by rw[q];simp)] at e;cases e)
  have hM:Mod K mg (LK O.heap H):=⟨ak,aa ae,[mb:aa Z:am],let⟨mc,h1,h2⟩:=af;[mc:aa h1:h2]⟩;have e0:Sd P w K mg (LK O.heap H) G9 [] O H:=⟨1,hM,λb o e=>OX e,R1 (Et _ _),trivial,λb Z=>A7 (show b∈([]:oj o3) from Z) (by simp),hok,.of_eq hg⟩
  refine UY ((F _ ak (aa ae)).run G9 [] O H [[.ref a]:[]] [.ref a] [.ref a] _ _ hr e0 (ad O (.ref a)) (.cons rfl .nil) (ao H hO hS) (.inr [_:0:ag])) λr s' h=>?_;cases r with
  |error e=>exact(ap H e s' h).elim
  |ok fl=>
   cases fl with
   |next=>exact VB h
   |brk=>exact VB h
   |cont=>exact VB h
   |ret u=>
    erw[h,v,H',os,bare,htk,un,al,r',q];have q':v= .bl true:=q;subst q';obtain rfl:u=GR true:=r';exists 1,OldK.of_keep λb o e=>?_,os,bare;cases q:H b with
    |none=>exact un.keep b o e q (by intro z;exact A7 (show b∈([]:oj o3) from z) (by simp)) (by simp)
    |some u=>
     rcases hO b with z|⟨ob,xs,z⟩
     ·rw[q] at z;cases z
     ·have z2:=un.frzs b ob _ z;erw[hok b _ z,e1,_];erw[al b _ z2,e2,_];rw[e] at e1;cases e1;exact e2
 cases hk:K.lookup a with
 |some o=>
  have e:=KX a o hk;rw[ha] at e;cases e;refine ac (λ_=>U_) (λ_=> .inl rfl) (.inr ⟨_,vs.toArray,_,hk,1,1,1,by rwa[uz,ah],by simpa using rv⟩) (λb u z=>by have z':(U_:om HO)=u_ u:=z;cases z') (λb z=>A7 rfl z) λz=>A7 rfl z
 |none=>
  refine ac (λb=>if b=a then u_ (.frz {cls:= .type "list",data:= .seq vs.toArray} (.lst (ns.map V.int))) else U_) (λb=>?_) (.inl (.inr [{cls:= .type "list",data:= .seq vs.toArray}:A3 rfl])) (λb u z=>?_) (λb z=>?_) λ_=>hk
  ·by_cases Z:b=a
   ·exact .inr [_:_:A3 Z]
   ·exact .inl (A2 Z)
  ·by_cases Z:b=a
   ·have z':=(A3 Z).symm.trans z;cases z';subst Z;exact⟨ha,by rwa[ud],vs,_,rv,ha⟩
   ·have z':=(A2 Z).symm.trans z;cases z'
  ·by_cases Z:b=a
   ·exact Z
   ·exact A7 (A2 Z) z
noncomputable abbrev KOf {K:o0}{h:o8}(_:K.In h):o0:=K
def MZ {l:PySem.W.OpenLaw}{n k:Nat}{q:o9}{U:oj Str}{XP:(Str->om o6)->o8->Prop}{YP:og->o8->Prop}{d:DefRec}{K:HB->o0}{CX:og->CXT}{sp:og->Sp}{x:Str}
  (hn:l.most=u_ n) (ad:n<=V9) (ae:d.params.defaults= []) (hr:mr k G9)
  (hY:∀(w:og) (h:o8),YP w h->(K w.params).In h)
  (F:∀(w:og) (mg:Str->om o6) (fa:o3) (h:o8),(K w.params).In h->h.Ns Vw mg->mg d.name=u_ (.ref fa)->
   ∃fd:V8,(∀(s:o7) (u:o6),GM s fd [[u]:[]] [(x,u)])/\fd.scope.names.lookup x=u_ .local/\
    ∀base:o8,(K w.params).In base->base.Ns Vw mg->FnOk l.prog w (K w.params) mg base (CX w) k fa fd [x] (sp w))
  (af:∀(w:og) (H:Hp) (a:o3) (ns:oj Int),↑ns<=n->AbN H->SqL (K w.params) H a (ns.map V.int)->sp w [.ref a] H (λv _=>v= .bl v_) λ_ _ _=>False)
  (ag:∀(w:og) (H:Hp) (s:o7) (e:o6) (s':o7),CX w [] H s (λ_ _ _=>False) e s'->False):
  PySem.W.WalkO q U XP YP l.row.toRowW d [] (λf vs=>PySem.call f vs):=by
 refine Att.attach_call hn ae λw s₀ s₁ mg mb fa o pm cd doc a vs ns G Y ho hd ak ah aa Z O hg=>?_;have KX:=hY w _ Y;erw[F w mg fa _ KX G.T.g ah,fd,hb,ac,hF];exact LC KX G.T.g G.T.b G.T.builtins G.T.nolimit hg aa Z (uT O ad) hr hF hb ac (λH hO hS=>af w H a ns O hO hS) λH e s'=>ag w H s₁ e s'
def Ir {l:PySem.W.OpenLaw}{n k:Nat}{q:o9}{O:oj Str}{XP:(Str->om o6)->o8->Prop}{YP:og->o8->Prop}{d:DefRec}{K:HB->o0}{CX:CXT}{sp:o0->Sp}{x:Str}
  (hn:l.most=u_ n) (U:n<=V9) (Z:d.params.defaults= []) (hr:mr k G9)
  (hY:∀(w:og) (h:o8),YP w h->(K w.params).In h)
  (F:∀(w:og) (mg:Str->om o6) (fa:o3) (h:o8),(K w.params).In h->h.Ns Vw mg->mg d.name=u_ (.ref fa)->
   ∃fd:V8,(∀(s:o7) (u:o6),GM s fd [[u]:[]] [(x,u)])/\fd.scope.names.lookup x=u_ .local/\
    ∀base:o8,(K w.params).In base->base.Ns Vw mg->FnOk l.prog w (K w.params) mg base CX k fa fd [x] (sp (K w.params)))
  (aa:∀(K:o0) (H:Hp) (a:o3) (ns:oj Int),↑ns<=n->AbN H->SqL K H a (ns.map V.int)->sp K [.ref a] H (λv _=>v= .bl v_) λ_ _ _=>False)
  (ac:∀(H:Hp) (s:o7) (e:o6) (s':o7),CX [] H s (λ_ _ _=>False) e s'->False):
  PySem.W.WalkO q O XP YP l.row.toRowW d [] (λf vs=>PySem.call f vs):=
 MZ (K:=K) (CX:=λ_=>CX) (sp:=λw=>sp (K w.params)) hn U Z hr hY F (λw H a ns h1 h2 h3=>aa (K w.params) H a ns h1 h2 h3) λ_ H s e s'=>ac H s e s'
nonrec def Qn (s:Stmt)(j:Nat):Stmt:=match s with
 | .ClassDef _ _ _ body _ _ _ _ _ _ _=>body.getD j (.Pass ⟨(0),(0),(0),(0)⟩)
 |_=> .Pass ⟨(0),(0),(0),(0)⟩
nonrec def YS (s:Stmt):Arguments:=match s with
 | .FunctionDef _ a _ _ _ _ _ _ _ _=>a
 |_=>{posonlyargs:= [],args:= [],vararg:=U_,kwonlyargs:= [],kw_defaults:= [],kwarg:=U_,defaults:= []}
nonrec def yP (s:Stmt):oj Stmt:=match s with
 | .FunctionDef _ _ b _ _ _ _ _ _ _=>b
 |_=> []
nonrec def qi (s:Stmt):Scope:=match s with
 | .FunctionDef _ _ _ _ _ _ sc _ _ _=>sc
 |_=>{kind:= .function,names:= [],isGenerator:=V6,isCoroutine:=V6}
noncomputable abbrev CX0:CXT:=λ_ _ _ _ _ _=>False
noncomputable abbrev E0:XK:=λ_ _ _=>False
variable {X:Cx}
def qA:XH CX0 X E0:=λ_ _ _ _ _ _ _ h=>h.elim
structure Fun (K:o0)(x qual:Str)(st:Stmt)(f:o3)(fd:V8):Prop where
 ex:∃(oc:o6) (od:om o3) (kV doc pm:o6) (an:om o3) (cdv ct:o6) (osl:Array (om o6)),
  fd=PySem.W.fnOf x qual (YS st) (yP st) (qi st) .none kV doc pm an cdv ct/\K.lookup f=u_ ⟨oc,od,.func fd,osl⟩/\PySem.W.codeIn K cdv qual=v_
 kp:PySem.W.keepIn K (.ref f)=v_
section
variable {P:o9}{w:og}{K:o0}{mg:Str->om o6}{base:o8}
def Fun.ok {x qual:Str}{st:Stmt}{f:o3}{fd:V8}{N ps:oj Str}{k:Nat}{sp:Sp}(F:Fun K x qual st f fd)(S:qw N ps (qi st))(len:∀vs H Q E,sp vs H Q E->↑vs=↑ps)
  (O:∀(cdv:o6) (A:oh) (outer:oj Env) (s:o7) (H:Hp) (vs:oj V) (Q:VK) (E:XK),mr k (A.deeper (Vd qual (qi st) #[0,s] f cdv))->sp vs H Q E->
   ∃t,PSs (cxOf CX0 P w K mg base N qual (qi st) f cdv A outer s H E).nox (yP st) t/\t {nx:=λ_ H'=>Q .non H',rt:=Q} (KF N vs) H):FnOk P w K mg base CX0 (k+1) f fd ps sp:=by
 erw[F.ex,oc,od,kV,doc,pm,an,cdv,ct,osl,rfl,lk,U];refine Abb lk U S len λA outer s H vs Q E hr Z=>?_;erw[O cdv A outer s H vs Q E hr Z,t,h,q];exact[t:h.nox:q]
def Fun.binds {x qual:Str}{st:Stmt}{f:o3}{fd:V8}{ps:oj Str}(F:Fun K x qual st f fd)
  (h:∀(kV doc pm:o6) (an:om o3) (cdv ct:o6) (us:oj o6),↑us=↑ps->Gb (PySem.W.fnOf x qual (YS st) (yP st) (qi st) .none kV doc pm an cdv ct) [us:[]]=pure (ps.zip us)):zU K fd ps []:=by
 erw[F.ex,oc,od,kV,doc,pm,an,cdv,ct,osl,rfl,lk,O];exact .all (h kV doc pm an cdv ct)
def ML {x qual:Str}{st:Stmt}{f:o3}{oc:o6}{od an:om o3}{osl:Array (om o6)}{kV doc pm cdv ct:o6}(l:K.lookup f=u_ ⟨oc,od,.func (PySem.W.fnOf x qual (YS st) (yP st) (qi st) .none kV doc pm an cdv ct),osl⟩)
  (c:PySem.W.codeIn K cdv qual=v_) (k:PySem.W.keepIn K (.ref f)=v_):Fun K x qual st f (PySem.W.fnOf x qual (YS st) (yP st) (qi st) .none kV doc pm an cdv ct):=[⟨oc,od,kV,doc,pm,an,cdv,ct,osl,1,l,c⟩:k]
end
variable {A:oh}
def yb {k:Nat}(O:mr k A):A.units+1<cLine:=Uj (Nat.add_le_add_left (by decide:1<=64) _) O.units
variable {n:Nat}
def X2 (h:n<=1000):n<sizeLine:=Uj h ()
section
variable {X:Cx}
def pv (i:Nat){x:Str}{pos:Pos}(U:X.N[i]? =u_ x:=by rfl)(Z:Vis X.env.scope x:=by first|exact Go rfl|exact gY (Go rfl)|exact gY (gY rfl))(hd:(x==("__debug__":Str))=false:=by decide)
  (O:(x==("__classdict__":Str))=false:=by decide):PE X (.Name x pos) (SG i):=Aau U Z hd O
def E9:Yt X (.builtin "len") (λxs H Q=>∃a kvs,xs= [V.ref a]/\H a=u_ (.dK kvs)/\Q (.int ↑kvs) H):=by
 exists 2,xs,us,Q,I,r,h;erw[h,a,kvs,rfl,ha,q];erw[Jw r,u,rfl,ru];cases ru;exact AcM I (.inl ha) λt s' O=>⟨.int ↑kvs,H,O,[t:1],q⟩
end
def iP {A B:Prop}(h:B):if V6=v_ then A else B:=by
 rw[A2 uc];exact h
def lC {A B:Prop}(h:A):if v_=v_ then A else B:=by
 rw[A3 rfl];exact h
def lL {c A B:Prop}[Decidable c](h1:c->A)(h2:¬c->B):if c then A else B:=by
 by_cases h:c
 ·rw[A3 h];exact h1 h
 ·rw[A2 h];exact h2 h
nonrec def ia (H H':Hp):Prop:=∀b o,H b=u_ o->H' b=u_ o
def ia.refl (H:Hp):ia H H:=λ_ _ h=>h
variable {H H1 H2:Hp}
def ia.trans (a:ia H H1)(b:ia H1 H2):ia H H2:=λc o h=>b c o (a c o h)
variable {H':Hp}
def ia.free (e:ia H H'){l:o3}(h:H' l=Option.none):H l=Option.none:=by
 cases q:H l with
 |none=>rfl
 |some o=>
  rw[e l o q] at h;cases h
section
variable {κ:Type}[DecidableEq κ]
variable {kvs:oj (κ×V)}{v:V}
def Na {k:κ}(h:iW kvs k=u_ v):k∈kvs.map (·.1):=by
 have q:(kvs.any λkv=>decide (kv.1=k))=true:=by
  rw[JY,h]
  all_goals rfl
 erw[List.any_eq_true.mp q,p,O,e];exact Ac.mpr [p:O:uw e]
def EN {p:κ×V}{r:oj (κ×V)}{k:κ}(e:p.1=k):Js (p::r) k=Js r k:=by
 unfold Js;rw[vO,A2 (by simp[e])]
def EO {p:κ×V}{r:oj (κ×V)}{k:κ}(e:¬p.1=k):Js (p::r) k=p::Js r k:=by
 unfold Js;rw[vO,A3 (by simp[e])]
end
end L2
namespace L2
open PySem
inductive D where
 |non|bl (b:Bool)|int (i:Int)|str (z:Str)|lst|dct|tup (xs:List D)
nonrec def QC (c:Nat):Bool:=decide (32<=c)&&decide (c<=126)&&decide (c≠37)
nonrec def QB (z:Str):Bool:=decide (↑z<=300)&&z.cps.toList.all QC
mutual
noncomputable def iK:D->Bool
 | .str z=>QB z
 | .tup xs=>decide (↑xs<=40)&&goodL xs
 |_=>V6
noncomputable def goodL:oj D->Bool
 | []=>v_
 |x::r=>iK x&&goodL r
end
mutual
noncomputable def sz:D->Nat
 | .str z=>↑z+1
 | .tup xs=>1+szL xs
 |_=>0
noncomputable def szL:oj D->Nat
 | []=>0
 |x::r=>sz x+szL r
end
mutual
noncomputable def dp:D->Nat
 | .str _=>1
 | .tup xs=>1+dpL xs
 |_=>0
noncomputable def dpL:oj D->Nat
 | []=>0
 |x::r=>max (dp x) (dpL r)
end
mutual
noncomputable def nd:D->Nat
 | .tup xs=>1+ndL xs
 |_=>1
noncomputable def ndL:oj D->Nat
 | []=>0
 |x::r=>nd x+ndL r
end
nonrec def isT (d:D):Bool:=iK d&&decide (sz d<=600)&&decide (dp d<=12)
def zt:∀(xs ys:oj D),szL (xs++ys)=szL xs+szL ys
 | [],ys=>by simp[szL]
 |x::r,ys=>by simp![U9,szL,zt r ys];omega
def zB:∀(xs ys:oj D),ndL (xs++ys)=ndL xs+ndL ys
 | [],ys=>by simp[ndL]
 |x::r,ys=>by simp![U9,ndL,zB r ys];omega
def wv {k:Nat}:∀(xs:oj D),dpL xs<=k↔∀x∈xs,dp x<=k
 | []=>by simp[dpL]
 |x::r=>by
  have U:=wv (k:=k) r;have e:dpL (x::r)=max (dp x) (dpL r):=by simp![dpL]
  rw[e];constructor
  ·intro h y O;rcases A9.mp O with rfl|O
   ·omega
   ·exact U.mp () y O
  ·intro h;have h1:=h x uj;have h2:=U.mpr λy O=>h y (ui _ O);omega
def Abh {d:D}(h:iK d=v_):1<=dp d:=by
 cases d<;>simp_all [iK,dp]
nonrec def wOk (w:oj (D×Nat)):Bool:=w.all λp=>iK p.1&&decide (p.2+dp p.1<=13)
nonrec def wSz (w:oj (D×Nat)):Nat:=szL (w.map (·.1))
nonrec def G (w:oj (D×Nat))(n:Nat):Bool:=wOk w&&decide (n+wSz w<=600)
def PZ (d:D):G [(d,1)] 0=isT d:=by
 simp![G,wOk,wSz,isT,vv,Rj,uC,U7,szL,vU,TF,RJ];have e:decide (1+dp d<=13)=decide (dp d<=12):=by
  rw[vc];omega
 rw[e];cases iK d<;>cases decide (sz d<=600)<;>cases decide (dp d<=12)<;>rfl
variable {n:Nat}
def Ac0 (h:n<=600):G [] n=true:=by simp[G,wOk,wSz,szL,h]
def sx (w:oj (D×Nat))(d:D)(k n:Nat):G (w++ [(d,k)]) n=(wOk w&&(iK d&&decide (k+dp d<=13))&&decide (n+(wSz w+sz d)<=600)):=by
 simp![G,wOk,wSz,UP,vv,Rj,vU,uD,uC,U7,zt,szL,RJ]
 rfl
def P0 {w:oj (D×Nat)}{d:D}{k:Nat}(h:iK d=V6):G (w++ [(d,k)]) n=false:=by
 rw[sx,h];simp
def MX {w:oj (D×Nat)}{d:D}{k:Nat}(h:12<k):G (w++ [(d,k)]) n=false:=by
 rw[sx];cases O:iK d with
 |false=>simp
 |true=>
  have:=Abh O;have e:decide (k+dp d<=13)=false:=ue ()
  rw[e];simp
def AbJ {w:oj (D×Nat)}{d:D}{k:Nat}(h:600<n+sz d):G (w++ [(d,k)]) n=false:=by
 rw[sx];have e:decide (n+(wSz w+sz d)<=600)=false:=ue ()
 rw[e];simp
def AbI {w:oj (D×Nat)}{xs:oj D}{k:Nat}(h:600<n+1):G (w++ [(.tup xs,k)]) n=false:=AbJ (by simp![sz];omega)
def M9 (xs:oj D)(k:Nat):wOk (xs.map λx=>(x,k+1))=(goodL xs&&xs.all λx=>decide (k+1+dp x<=13)):=by
 induction xs with
 |nil=>rfl
 |cons x r O=>
  simp![uC,wOk,vv,goodL] at O⊢;rw[O];cases iK x<;>cases decide (k+1+dp x<=13)<;>cases goodL r<;>simp
def M5 (xs:oj D)(k:Nat):wSz (xs.map λx=>(x,k+1))=szL xs:=by
 unfold wSz;rw[uU]
 congr 1
 induction xs with
 |nil=>rfl
 |cons x r O=>simp![uC,O];rfl
def AcY {w:oj (D×Nat)}{xs:oj D}{k:Nat}(U:↑xs<=40)(hk:k<=12):G (w++ [(.tup xs,k)]) n=G (w++xs.map λx=>(x,k+1)) (n+1):=by
 rw[sx];unfold G;have Z:wOk (w++xs.map λx=>(x,k+1))=(wOk w&&wOk (xs.map λx=>(x,k+1))):=by unfold wOk;rw[UP]
 have e2:wSz (w++xs.map λx=>(x,k+1))=wSz w+szL xs:=by
  have:=M5 xs k;unfold wSz at this⊢;rw[uD,zt,this]
 have e3:decide (k+dp (.tup xs)<=13)=xs.all λx=>decide (k+1+dp x<=13):=by
  have q:=wv (k:=12-k) xs;have e0:dp (.tup xs)=1+dpL xs:=by simp![dp]
  rw[e0,vJ];constructor
  ·intro h;have h:=uw h;refine List.all_eq_true.mpr λx O=>A6 ?_;have h2:=q.mp () x O
   omega
  ·intro h;refine A6 ?_;have h2:=q.mpr λx O=>by
    have h3:=uw (List.all_eq_true.mp h x O);omega
   omega
 rw[Z,e2,e3,M9];have e4:iK (.tup xs)=goodL xs:=by simp![iK,A6 U,Tn]
 have e5:decide (n+(wSz w+sz (.tup xs))<=600)=decide (n+1+(wSz w+szL xs)<=600):=by
  rw[vc];simp![sz];omega
 rw[e4,e5]
variable {z:Str}
def AcZ {w:oj (D×Nat)}{k:Nat}(O:QB z=v_)(hk:k<=12):G (w++ [(.str z,k)]) n=G w (n+(1+↑z)):=by
 rw[sx];unfold G;have U:iK (.str z)=true:=by simp![iK,O]
 have Z:decide (k+dp (.str z)<=13)=true:=A6 (by simp![dp];omega)
 have e5:decide (n+(wSz w+sz (.str z))<=600)=decide (n+(1+↑z)+wSz w<=600):=by
  rw[vc];simp![sz];omega
 rw[U,Z,e5];simp
end L2
namespace AwZ
open PySem PyProof.Rows
open PySem.AutoSeq1 (wpAny_loadPart')
section
variable {prog:o9}{w:og}{A:oh}{E:o6->o7->Prop}{s:o7}
def AbY {j t:o3}{i:Nat}{its:Array o6}{x:o6}{Q:o6->o7->Prop}(U:s.heap.IsTupleIter j t i)(gt:s.heap.IsTuple t its)(gx:its[i]? =u_ x)
  (q:∀h2,h2.IsTupleIter j t (i+1)->Gr j s.heap h2->Q x {s with heap:=h2}):V7 #[w,w] A (Gk (.ref j)) Q E s:=by
 erw[id U,u,O,cu,du];erw[gt,ut,Z,_,nt,aa];unfold Gk;refine A4 (vC (name:=GJ "__next__") U.typeIs vS
  (vT vS U.typeIs F.entry_tuple_iterator_next ?_ (F.args_tuple_iterator_next_1 _)))
 show V7 _ _ (Gi (.ref j) 0>>=_) _ _ s;refine A4 (vB O du (x:= .ref t) rfl ?_);show V7 _ _ (if(Ve t==VF)=v_ then _ else _) _ _ s
 rw[A2 (show¬(Ve t==VF)=v_ from uc)]
 show V7 _ _ (Gi (.ref j) 1>>=_) _ _ s;refine A4 (vB O du (x:= .int i 0) rfl ?_);show V7 _ _ (Ta (.ref t)>>=_) _ _ s;refine A4 (Ud Z aa ?_);simp![TK,gx];refine A4 (rF O du (by simp) (Vb [x:1:Vb (q _ ?_ (UC ..))]))
 exact⟨_,Hy _ O (Obj.isFreed_of_fields (rD du _)),(Obj.cls_mapFields ..).trans cu,by rw[rD du];simp[V_]⟩
def CB {j t:o3}{i:Nat}{its:Array o6}{Q:o6->o7->Prop}(hh:A.handled=U_)(O:s.heap.IsTupleIter j t i)(gt:s.heap.IsTuple t its)(gx:its[i]? =U_)
  (q:∀h2 e,Heap.ExtBut j s.heap h2->(∃u,h2.get? e=u_ u/\u.cls= .type "StopIteration")->E (.ref e) {s with heap:=h2}):V7 #[w,w] A (Gk (.ref j)) Q E s:=by
 erw[id O,u,U,cu,du];erw[gt,ut,Z,_,nt,aa];unfold Gk;refine A4 (vC (name:=GJ "__next__") O.typeIs vS
  (vT vS O.typeIs F.entry_tuple_iterator_next ?_ (F.args_tuple_iterator_next_1 _)))
 show V7 _ _ (Gi (.ref j) 0>>=_) _ _ s;refine A4 (vB U du (x:= .ref t) rfl ?_);show V7 _ _ (if(Ve t==VF)=v_ then _ else _) _ _ s
 rw[A2 (show¬(Ve t==VF)=v_ from uc)]
 show V7 _ _ (Gi (.ref j) 1>>=_) _ _ s;refine A4 (vB U du (x:= .int i 0) rfl ?_);show V7 _ _ (Ta (.ref t)>>=_) _ _ s;refine A4 (Ud Z aa ?_);simp![TK,gx];refine A4 (Uu (A4 (rF U du (by simp) ?_)))
 show V7 _ _ (newExc (.type "StopIteration") []>>=_) _ _ _;refine A4 ?_;simp![newExc,newTuple];refine A4 (vo ?_ (by size_fits))
 refine A4 (m:=tD _ _) (HA (a:=VF) (by first|rfl|(simp![tD];rfl)) ?_)
 refine vo ?_ (by size_fits)
 simp![raiseNew];refine A4 (wpAny_handled ?_)
 first|rw[show A.in1.handled=U_ from hh]|rw[hh]
 refine A4 (Vb (rY ?_));exact q _ _ (((UC ..).extBut.push _).push _) [_:uJ _ rfl:1]
structure Apt (z p r i j a b:o3):Prop where
 pz:p≠z
 rz:r≠z
 iz:i≠z
 jz:j≠z
 pr:p≠r
 pi:p≠i
 pj:p≠j
 ri:r≠i
 rj:r≠j
 ij:i≠j
 az:a≠z
 ar:a≠r
 ai:a≠i
 aj:a≠j
 bz:b≠z
 br:b≠r
 bi:b≠i
 bj:b≠j
def AbR {z p r i j a b:o3}{k:Nat}{xs ys:Array o6}{x y u v:o6}{Q:o6->o7->Prop}(D:Apt z p r i j a b)
  (Z:VC s.heap z p r .none) (hp:Vo s.heap p (.ref i) (.ref j)) (hr:Vo s.heap r u v)
  (hi:s.heap.IsTupleIter i a k) (hj:s.heap.IsListIter j b k) (ha:s.heap.IsTuple a xs) (hb:s.heap.IsList b ys) (hx:xs[k]? =u_ x) (hy:ys[k]? =u_ y)
  (q:∀h2,VC h2 z p r (V_ #[0,s])->Vo h2 r x y->h2.IsTupleIter i a (k+1)->h2.IsListIter j b (k+1)->Vo h2 #[0,s] x y->h2.objs.size=#[0,s]+1->
   (∀c o,c≠z->c≠r->c≠i->c≠j->s.heap.get? c=u_ o->h2.get? c=u_ o)->Q (.ref #[0,s]) {s with heap:=h2}):
  V7 #[w,w] A (G6.«zip.__next__» [[.ref z]:[]]) (λfin t=>∃v,fin= .done (.ret v)/\Q v t) E s:=by
 show V7 _ _ (Gi (.ref z) 2>>=_) _ _ _;refine A4 (vB Z rfl (x:= .bool V6) rfl ?_);show V7 _ _ (Gi (.ref z) 3>>=_) _ _ _;refine A4 (vB Z rfl (x:= .ref p) rfl ?_);refine A4 (Ud hp rfl ?_);show V7 _ _ (Hu (.ref z)>>=_) _ _ s;refine A4 ?_;unfold Hu;refine A4 (vB Z rfl (x:= .none) rfl (Vb ?_));simp![if_true];refine A4 (Uu ?_);refine A4 (vB Z rfl (x:= .ref r) rfl ?_);refine A4 (Uk Z (by simp) λh1 z1 s1=>?_)
 replace z1:VC h1 z p r .ellipsis:=z1
 refine A4 ?_;simp![TN,FH,Uo,Ff];refine A4 (A4 (T6 ?_));show V7 _ _ (Gk (.ref i)>>=_) _ _ _;refine A4 (AbY (hi.extBut s1.extBut D.iz) (ha.extBut s1.extBut D.az) hx λh2 i2 s2=>Vb ?_);have r2:Vo h2 r u v:=s2.extBut _ _ D.ri (s1.extBut _ _ D.rz hr);refine A4 (Ud r2 rfl ?_);refine A4 (Rs r2 λh3 r3 U=>?_)
 replace r3:Vo h3 r x v:=r3
 refine A4 (RG (Vb ?_));refine A4 (A4 (T6 ?_));show V7 _ _ (Gk (.ref j)>>=_) _ _ _;refine A4 (wpAny_nextOf_list_item (((hj.extBut s1.extBut D.jz).extBut s2.extBut D.ij.symm).extBut U.extBut D.rj.symm)
  (((hb.extBut s1.extBut D.bz).extBut s2.extBut D.bi).extBut U.extBut D.br) hy λh4 j4 s4=>Vb ?_)
 have r4:Vo h4 r x v:=s4.extBut _ _ D.rj r3;refine A4 (Ud r4 rfl ?_);refine A4 (Rs r4 λh5 r5 s5=>?_)
 replace r5:Vo h5 r x y:=r5
 refine A4 (RG (Vb (Vb ?_)));refine A4 (Ud r5 rfl ?_);refine A4 (wpAny_newTuple ?_);have sz:h5.objs.size=#[0,s]:=by rw[s5.1,s4.1,U.1,s2.1,s1.1]
 have z5:VC h5 z p r .ellipsis:=s5.extBut _ _ D.rz.symm (s4.extBut _ _ D.jz.symm (U.extBut _ _ D.rz.symm (s2.extBut _ _ D.iz.symm z1)));have k5:∀c o,c≠z->c≠r->c≠i->c≠j->s.heap.get? c=u_ o->h5.get? c=u_ o:=λc o O c2 c3 c4 e=>
  s5.extBut _ _ c2 (s4.extBut _ _ c4 (U.extBut _ _ c2 (s2.extBut _ _ c3 (s1.extBut _ _ O e))))
 have i5:h5.IsTupleIter i a (k+1):=((i2.extBut U.extBut D.ri.symm).extBut s4.extBut D.ij).extBut s5.extBut D.ri.symm;have j5:h5.IsListIter j b (k+1):=j4.extBut s5.extBut D.rj.symm;have aa:z<h5.objs.size:=uK z5;show V7 _ _ (FD (.ref z) (.ref h5.objs.size)>>=_) _ _ _;refine A4 ?_;unfold FD;have z6:VC (h5.push {cls:= .type "tuple",data:= .seq #[x,y]}) z p r .ellipsis:=uh _ z5;refine A4 (Uk z6 (by simp) λh7 z7 s7=>?_)
 replace z7:VC h7 z p r (V_ h5.objs.size):=z7
 refine Uk z7 (by simp) λh8 z8 s8=>?_
 replace z8:VC h8 z p r (V_ h5.objs.size):=z8
 have up:∀c o,c≠z->h5.get? c=u_ o->h8.get? c=u_ o:=λc o O e=>s8.extBut _ _ O (s7.extBut _ _ O (uh _ e));have t8:Vo h8 h5.objs.size x y:=s8.extBut _ _ (U6 aa) (s7.extBut _ _ (U6 aa) (uJ _ rfl));have n8:h8.objs.size=h5.objs.size+1:=by rw[s8.1,s7.1,vf]
 rw[sz] at z8 t8 n8;refine Vb [0:?_];show Q (.ref h5.objs.size) _;rw[sz];exact q h8 z8 (up _ _ D.rz r5) (by erw[i5,o,e,g];exact[o:up _ o D.iz e:g]) (j5.at λo e=>up _ o D.jz e) t8 n8 λc o O c2 c3 c4 e=>up c o O (k5 c o O c2 c3 c4 e)
def zip_go {z p r i j a b:o3}{k:Nat}{xs ys:Array o6}{x y u v:o6}{Q:om o6->o7->Prop}(D:Apt z p r i j a b)
  (O:VC s.heap z p r .none) (Z:Vo s.heap p (.ref i) (.ref j)) (hr:Vo s.heap r u v)
  (hi:s.heap.IsTupleIter i a k) (hj:s.heap.IsListIter j b k) (ha:s.heap.IsTuple a xs) (hb:s.heap.IsList b ys) (hx:xs[k]? =u_ x) (hy:ys[k]? =u_ y)
  (q:∀h2,VC h2 z p r (V_ #[0,s])->Vo h2 r x y->h2.IsTupleIter i a (k+1)->h2.IsListIter j b (k+1)->Vo h2 #[0,s] x y->h2.objs.size=#[0,s]+1->
   (∀c o,c≠z->c≠r->c≠i->c≠j->s.heap.get? c=u_ o->h2.get? c=u_ o)->Q (u_ (.ref #[0,s])) {s with heap:=h2}):
  V7 #[w,w] A (VM (.ref z)) Q E s:=by
 have U:s.TypeIs (.ref z) "zip":=[_:O:1];unfold VM;exact A4 (Hn (vC (name:=GJ "__next__") U F.slot_zip_next
  (vT F.slot_zip_next U F.entry_zip_next (AbR D O Z hr hi hj ha hb hx hy λh2 b1 b2 b3 b4 b5 b6 b7=>Vb (q h2 b1 b2 b3 b4 b5 b6 b7)) (F.args_zip_next_1 _))))
def zip_stop {z p r i j a b:o3}{k:Nat}{xs:Array o6}{Q:om o6->o7->Prop}(hh:A.handled=U_)(D:Apt z p r i j a b)
  (O:VC s.heap z p r .none) (hp:Vo s.heap p (.ref i) (.ref j)) (hi:s.heap.IsTupleIter i a k) (ha:s.heap.IsTuple a xs) (hx:xs[k]? =U_)
  (q:∀h2,(∀c o,c≠z->c≠r->c≠i->c≠j->s.heap.get? c=u_ o->h2.get? c=u_ o)->Q U_ {s with heap:=h2}):V7 #[w,w] A (VM (.ref z)) Q E s:=by
 have tz:s.TypeIs (.ref z) "zip":=[_:O:1];unfold VM;refine A4 (Hn (vC (name:=GJ "__next__") tz F.slot_zip_next
  (vT F.slot_zip_next tz F.entry_zip_next ?_ (F.args_zip_next_1 _))))
 show V7 _ _ (Gi (.ref z) 2>>=_) _ _ _;refine A4 (vB O rfl (x:= .bool V6) rfl ?_);show V7 _ _ (Gi (.ref z) 3>>=_) _ _ _;refine A4 (vB O rfl (x:= .ref p) rfl ?_);refine A4 (Ud hp rfl ?_);show V7 _ _ (Hu (.ref z)>>=_) _ _ s;refine A4 ?_;unfold Hu;refine A4 (vB O rfl (x:= .none) rfl (Vb ?_));simp![if_true];refine A4 (Uu ?_);refine A4 (vB O rfl (x:= .ref r) rfl ?_);refine A4 (Uk O (by simp) λh1 U s1=>?_)
 replace U:VC h1 z p r .ellipsis:=U
 refine A4 ?_;simp![TN,FH,Uo,Ff];refine A4 (A4 (T6 ?_));show V7 _ _ (Gk (.ref i)>>=_) _ _ _;refine A4 (CB hh (hi.extBut s1.extBut D.iz) (ha.extBut s1.extBut D.az) hx λh2 e s2 he=>?_);erw[he,oe,Z,ce];have z2:VC h2 z p r .ellipsis:=s2 _ _ D.iz.symm U;have ez:e≠z:=λx=>by subst x;rw[z2] at Z;cases Z;simp at ce
 refine Uk z2 (by simp) λh3 _ s3=>?_
 refine A4 (V0 (T:="StopIteration") (b:=v_) [oe:s3.extBut _ _ ez Z:ce] isSubtype_stop ?_);exact Vb (q _ λc o c1 _ c3 _ x=>s3.extBut _ _ c1 (s2 _ _ c3 (s1.extBut _ _ c1 x)))
noncomputable abbrev q1 (h:o8)(a:o3):o8:=h.push {cls:= .type "tuple_iterator",data:= .fields #[.ref a,.int 0 0]}
noncomputable abbrev q2 (h:o8)(a b:o3):o8:=(q1 h a).push {cls:= .type "list_iterator",data:= .fields #[.ref b,.int 0 0]}
noncomputable abbrev q3 (h:o8)(a b:o3):o8:=(q2 h a b).push {cls:= .type "tuple",data:= .seq #[.ref h.objs.size,.ref (q1 h a).objs.size]}
noncomputable abbrev q4 (h:o8)(a b:o3):o8:=(q3 h a b).push {cls:= .type "tuple",data:= .seq #[.none,.none]}
noncomputable abbrev q5 (h:o8)(a b:o3):o8:=(q4 h a b).push {cls:= .type "zip",data:= .fields #[.none,.bool V6,.bool V6,.ref (q2 h a b).objs.size,.ref (q3 h a b).objs.size]}
def Im (a b:o3)(xs ys:Array o6):Meets (G6.«zip.__new__» [[.type "zip",.ref a,.ref b]:[]]) (λ_ R s=>s.heap.IsTuple a xs/\s.heap.IsList b ys/\R (.ok (.ret (.ref (q4 s.heap a b).objs.size))) {s with heap:=q5 s.heap a b}):=
 .of_wp λprog w A R s h=>by
  erw[s,O,g,d,tk,os];erw[h,ha,U,h];have sub:=sub_zip;have h1:Heap.IsTuple (Ft ⟨O,g,d,tk,os⟩) a xs:=ha;have h2:Heap.IsList (Ft ⟨O.push {cls:= .type "tuple_iterator",data:= .fields #[.ref a,.int 0 0]},g,d,tk,os⟩) b ys:=pL U _
  wp_walk using UJ h1,US h2
  exact[0:h]
def zip_call {a b:o3}{xs ys:Array o6}{Q:o6->o7->Prop}(ha:s.heap.IsTuple a xs)(hb:s.heap.IsList b ys)
  (h:∀h2,VC h2 (#[0,s]+4) (#[0,s]+2) (#[0,s]+3) .none->Vo h2 (#[0,s]+2) (.ref #[0,s]) (.ref (#[0,s]+1))->
   Vo h2 (#[0,s]+3) .none .none->h2.IsTupleIter #[0,s] a 0->h2.IsListIter (#[0,s]+1) b 0->h2.objs.size=#[0,s]+5->
   (∀c o,s.heap.get? c=u_ o->h2.get? c=u_ o)->Q (.ref (#[0,s]+4)) {s with heap:=h2}):V7 #[w,w] A (call (.type "zip") [.ref a,.ref b]) Q E s:=by
 refine callType_new F.called_zip () (F.typeCall_zip_2 _ _) (F.newCall_zip_2 _ _) (λobj=>F.args_object_init_3 obj _ _) F.entry_zip_new (Im a b xs ys) [ha:hb:?_]
 have O:(q1 s.heap a).objs.size=#[0,s]+1:=vf ..;have U:(q2 s.heap a b).objs.size=#[0,s]+2:=by rw[vf,O]
 have Z:(q3 s.heap a b).objs.size=#[0,s]+3:=by rw[vf,U]
 have z4:(q4 s.heap a b).objs.size=#[0,s]+4:=by rw[vf,Z]
 have z5:(q5 s.heap a b).objs.size=#[0,s]+5:=by rw[vf,z4]
 have g5:(q5 s.heap a b).get? (q4 s.heap a b).objs.size=u_ _:=uJ _ rfl;have g4:(q5 s.heap a b).get? (q3 s.heap a b).objs.size=u_ _:=uh _ (uJ _ rfl);have g3:(q5 s.heap a b).get? (q2 s.heap a b).objs.size=u_ _:=uh _ (uh _ (uJ _ rfl));have g2:(q5 s.heap a b).get? (q1 s.heap a).objs.size=u_ _:=uh _ (uh _ (uh _ (uJ _ rfl)));have g1:(q5 s.heap a b).get? #[0,s]=u_ _:=uh _ (uh _ (uh _ (uh _ (uJ _ rfl))));show _/\_;rw[U,Z,z4] at g5;rw[O,U] at g3;rw[Z] at g4;rw[O] at g2;rw[z4];exact[[_:g5:1]:h _ g5 g3 g4 ⟨_,g1,1,1⟩ ⟨_,g2,1,1⟩ z5 λc o x=>uh _ (uh _ (uh _ (uh _ (uh _ x))))]
end
end AwZ
namespace L2
open PySem PySem.Spec PyProof.Rows
nonrec def Its (x:Str):It:=⟨λi _=>i<x.cps.size,λi H v H'=>H'=H/\∃c,x.cps[i]? =u_ c/\v= .str ⟨#[c]⟩,λi _=>i=x.cps.size⟩
variable {w:og}{K:o0}{tg:Expr}{x:Str}
def Ay {P:o9}{t:Tok}{it:o3}(ty:String)(O:ty="str_ascii_iterator"∨ty="str_iterator"):
  PL P w K tg (Its x) [it] it (λi h=>h.IsStrIter it ty x t i) where
 mem:=by simp
 obj:=λi h st b U=>by
  have e:b=it:=by simpa using U
  subst e;erw[st,o,e,c,d];exact⟨o,e,λv z=>by rw[d] at z;cases z⟩
 keep:=λi h h' st k=>by
  erw[st,o,e,r];exact⟨o,k it (by simp) o e,r⟩
 item:=by
  intro X hP hw hK Z i oq s σ H E I hf st hg;subst hP hw hK;obtain⟨f0,f1,f2,f3,f4,f5⟩:=hf it (by simp)
  have W:Walks X.prog X.w X.A it [it] [it] x.cps.size (SignAt x) (λi h=>h.IsStrIter it ty x t i):=by
   rcases O with rfl|rfl
   ·exact rh (I.ok.hd Z) it x t
   ·exact Fd (I.ok.hd Z) it x t
  refine uZ (n:=1) I.tk (W.item i s _ _ hg st λv h' tk hv aa kk=>?_);intro htk;erw[hv,c,u,hx,rfl];have I1:Inv X oq σ H {s with heap:=h',toks:=tk}:=I.turned (λb o U e=>kk b o (by simpa using U) e) f0 f1 f3 f4 f5
  erw[id aa,o,e,c',d];refine⟨0,Ex (s:={s with heap:=h',toks:=tk}) e c' d (by rcases O with rfl|rfl<;>decide) ⟨.str ⟨#[c]⟩,H,I1,[u:1],⟨1,c,hx,1⟩,aa,λb U=>(hf b U).1⟩⟩
 done:=by
  intro X hP hw hK Z i oq s σ H E I hf st hg;subst hP hw hK;have ac:i=x.cps.size:=hg;subst ac;obtain⟨f0,f1,f2,f3,f4,f5⟩:=hf it (by simp)
  have W:Walks X.prog X.w X.A it [it] [it] x.cps.size (SignAt x) (λi h=>h.IsStrIter it ty x t i):=by
   rcases O with rfl|rfl
   ·exact rh (I.ok.hd Z) it x t
   ·exact Fd (I.ok.hd Z) it x t
  exact uZ (n:=1) I.tk (W.done s _ _ st λh' tk kk htk=>⟨1,I.turned (λb o U e=>kk b o (by simpa using U) e) f0 f1 f3 f4 f5⟩)
 self:=λ_ _ _ _ _ st h=>by
  rcases O with rfl|rfl
  ·exact wpAny_pyIter_striter_ascii st h
  ·exact wpAny_pyIter_striter_wide st h
section
variable {X:Cx}{tg:Expr}
inductive AcX (R:(It->Hp->Prop))(x:V)(H1:Hp):Prop
 |mk (z:_)(_:x= .str z)(_:R (Its z) H1)
nonrec def AdQ (tl:TE):TI:=λσ H R=>tl σ H λx H1=>AcX R x H1
def Mn {l:Expr}{tl:TE}(U:PE X l tl):PI X tg l (AdQ tl):=by
 exists 2,R,I,h;refine thn (U oq s σ H _ I h) λv s1 zq=>?_;erw[zq,x,H1,O,Z,q1];erw[q1,z,e,q];subst e;erw[Z,t,rfl];have fp:∀(o:Obj),∀b∈ [#[0,s1]],Av X oq H1 b:=λo b hb=>by
  have e:b=#[0,s1]:=by simpa using hb
  subst e;exact O.fpOk (uq _) (O.hok.fresh (uq _))
 cases ha:z.cps.all (·<128)
 ·refine wpAny_pyIter_wide ha ?_;exact⟨#[0,s1],[#[0,s1]],_,_,H1,1,O.kept (t':=s1.toks) λb o e=>uh _ e,Ay "str_iterator" (.inr rfl),⟨_,uJ _ rfl,1,1⟩,fp default,q⟩
 ·refine wpAny_pyIter_ascii ha ?_;exact⟨#[0,s1],[#[0,s1]],_,_,H1,1,O.kept (t':=s1.toks) λb o e=>uh _ e,Ay "str_ascii_iterator" (.inl rfl),⟨_,uJ _ rfl,1,1⟩,fp default,q⟩
inductive Ac7 (x:V)(lo:Option Int)(hi:Option Int)(H:Hp)(Q:VK):Prop
 |mk (z:_)(_:x= .str z)(_:↑z<=V9)(_:Q (.str (HM z lo hi)) H)
nonrec def BP:o6->om (Int×Tok)
 | .int i t=>u_ (i,t)
 |_=>U_
def Aac:SlR X Ac7:=by
 exists 2,x,v,O,U,lo,hi,sl,Q,I,rx,hs,pl,pu,h;erw[h,z,rfl,hz,q];erw[rx,t,rfl];exists "str",_,F.slot_str_getitem.lookup,vL _ _ _;have Z:O=partValue (BP O)/\lo=(BP O).map (·.1):=by cases pl<;>exact[1:1]
 have hu:U=partValue (BP U)/\hi=(BP U).map (·.1):=by cases pu<;>exact[1:1]
 erw[hs,o,e1,e2,e3];refine uZ (n:=1) I.tk ?_;refine wpAny_getItem_str_slice (l:=BP O) (u:=BP U) (st:=U_) ⟨o,e1,e2,by rw[e3,<-Z.1,<-hu.1];rfl⟩ rfl ?_
 refine post_val_or_str [?_:λt' k=>?_]
 ·exact uT (FX z _ _) hz
 ·intro htk;exact⟨.str (HM z lo hi),H,I.tok k,⟨t',by rw[Z.2,hu.2];rfl⟩,q⟩
def Qb {K:o0}(U:X.K=K):Yt X (.builtin "isinstance") (λxs H Q=>∃x T t b,xs= [x,.ty T]/\BM K H x t/\PySem.W.kitOne K t (.type T)=u_ b/\Q (.bl b) H):=by
 exists 2,xs,us,Q,I,r,h;erw[h,x,T,t,b,rfl,ty,e,q];erw[Ct r,u,Z,rfl,ru,O];cases O;subst U;exact uZ (n:=1) I.tk (Ej I ru ty e λtk htk=>⟨.bl b,H,I.tok tk,1,q⟩)
def su:∀bs:oj Bool,(Vh ↑bs).all (λi=>bs.getD i v_)=bs.all id
 | []=>rfl
 |b::r=>by
  rw[uu,T0,vv,Uq,vv];have e:(Vh ↑r).all ((λi=>(b::r).getD i v_)∘tL)=(Vh ↑r).all λi=>r.getD i true:=by
   congr 1
  rw[e,su r]
  rfl
def Jy (hc:X.calm=v_):Yt X (.builtin "all") (λxs H Q=>∃(p:o3) (bs:oj Bool),xs= [.ref p]/\SqL X.K H p (bs.map V.bl)/\Q (.bl (bs.all id)) H):=by
 exists 2,xs,us,Q,I,r,h;erw[h,p,bs,rfl,hp,q];erw[Jw r,u,rfl,ru];cases ru;erw[I.list hp,its,rv,pl,hz];have aa:p<#[0,s]:=by erw[pl,o,n,e,_];exact uK e
 refine uZ (n:=1) I.tk ?_;refine call_all_walk (US pl.isList ?_);have up:∀b o,s.heap.get? b=u_ o->(s.heap.push {cls:= .type "list_iterator",data:= .fields #[.ref p,.int 0 0]}).get? b=u_ o:=λb o e=>uh _ e;have hl:↑its=↑bs:=by have:=↑rv;simpa using this.symm
 exists #[0,s],_,_,_,_,_,λi=>bs.getD i v_,1,Walks.list (show X.A.in1.handled=U_ from I.ok.hd hc) #[0,s] p (uR aa) its.toArray,[⟨_,uJ _ rfl,1,1⟩:pl.isList.push _],?_,?_
 ·intro i v s' Q' E' hv hQ;have O:its[i]? =u_ v:=by simpa using hv
  have hi:i<↑its:=(Ae.mp O).1;obtain⟨u,e1,e2⟩:=rv.get (i:=i) (x:= .bl (bs[i]'())) (by simp[show i<bs.length by omega])
  rw[O] at e1;cases e1;cases e2;have:bs.getD i v_=bs[i]'():=by simp[VW,show i<bs.length by omega]
  have U:Q' (bs.getD i v_) s':=hQ;rw[this] at U;exact vw U
 ·intro h' tk kk htk;have Z:(Vh its.toArray.size).all (λi=>bs.getD i v_)=bs.all id:=by
   rw[uz,hl];exact su bs
  rw[Z];have I1:=I.kept (t':=s.toks) (h':=s.heap.push {cls:= .type "list_iterator",data:= .fields #[.ref p,.int 0 0]}) up;have ac:=I.fpOk (uq _) (I.hok.fresh (uq #[0,s]));erw[ac,f0,f1,f2,f3,f4,f5];exact⟨.bl (bs.all id),H,I1.turned (it:=#[0,s]) (λb o hb e=>kk b o (by simpa using hb) e) f0 f1 f3 f4 f5,1,q⟩
end
section
variable {X:Cx}
def Kk {x:Str}{i:Int}{pos:Pos}(O:Gl X x)(hm:∃t,X.mg x=u_ (.int i t))(hd:(x==("__debug__":Str))=V6):PE X (.Name x pos) (tC (.int i)):=by
 erw[hm,t,hm];exact sL O hm [t:1] hd
def Aaw {x z:Str}{pos:Pos}(O:Gl X x)(hm:∃t,X.mg x=u_ (.str z t))(hd:(x==("__debug__":Str))=V6):PE X (.Name x pos) (tC (.str z)):=by
 erw[hm,t,hm];exact sL O hm [t:1] hd
def pe_gR {x:Str}{a:o3}{pos:Pos}(O:Gl X x)(hm:X.mg x=u_ (.ref a))(hd:(x==("__debug__":Str))=V6):PE X (.Name x pos) (tC (.ref a)):=sL O hm rfl hd
end
variable {H:Hp}{p:o3}
def qf (h:H p=U_)(o:HO):ia H (upd H p o):=λb u q=>by rw[qj (qk q h)];exact q
nonrec def jA (p:o3)(H H':Hp):Prop:=∀b o,H b=u_ o->b≠p->H' b=u_ o
def jA.refl (p:o3)(H:Hp):jA p H H:=λ_ _ h _=>h
variable {H1 H2:Hp}
def jA.trans (a:jA p H H1)(b:jA p H1 H2):jA p H H2:=λc o h n=>b c o (a c o h n) n
def jA.upd (p:o3)(H:Hp)(o:HO):jA p H (L2.upd H p o):=λb u h n=>by rw[qj n];exact h
variable {H':Hp}
def jA.same (k:jA p H1 H')(s:ia H H1)(n:H p=U_):ia H H':=λb o h=>k b o (s b o h) (qk h n)
def jJ {α:Type}{xs:oj α}{i:Int}(h0:0<=i)(h1:i<↑xs):∃c,atI xs i=u_ c:=by
 obtain⟨n,rfl⟩:∃n:Nat,i=(n:Int):=[i.toNat:()]
 have hn:n<↑xs:=by omega
 exact[xs[n]:qE (um hn)]
nonrec def mW (cells:oj (Str×o3)):oj (Str×VN)->oj (Str×o3)->oj (Str×o3)
 | [],cs=>cs
 |(n,k)::r,cs=>mW cells r (if k== .free then(match cells.lookup n with|some a=>(n,a)::cs|none=>cs) else cs)
def KL {cells:oj (Str×o3)}:∀{names:oj (Str×VN)}{cs:oj (Str×o3)},(∀y c,cs.lookup y=u_ c->cells.lookup y=u_ c)->∀y c,(mW cells names cs).lookup y=u_ c->cells.lookup y=u_ c
 | [],_,h=>h
 |(n,k)::r,cs,h=>by
  unfold mW;refine KL λy c e=>?_;split at e
  ·split at e
   ·rename_i a ha
    rw[vh] at e;split at e
    ·rename_i U
     have O:y=n:=beq_iff_eq.mp U;subst O;cases e;exact ha
    ·exact h y c e
   ·exact h y c e
  ·exact h y c e
def oV {cells:oj (Str×o3)}:∀{names:oj (Str×VN)}{cs:oj (Str×o3)}{y:Str},(∃c,cs.lookup y=u_ c)->∃c,(mW cells names cs).lookup y=u_ c
 | [],_,_,h=>h
 |(n,k)::r,cs,y,h=>by
  unfold mW;refine oV ?_;split
  ·split
   ·rw[vh];split
    ·exact⟨0⟩
    ·exact h
   ·exact h
  ·exact h
def Ks {cells:oj (Str×o3)}:∀{names:oj (Str×VN)}{cs:oj (Str×o3)}{y:Str},(y,Vt)∈names->(∃c,cells.lookup y=u_ c)->∃c,(mW cells names cs).lookup y=u_ c
 | [],_,_,h,_=>nomatch h
 |(n,k)::r,cs,y,h,O=>by
  unfold mW;rcases A9.mp h with e|h
  ·cases e;refine oV ?_;erw[O,c,O];rw[A3 (),O]
   exact⟨c,by simp[vh]⟩
  ·exact Ks h O
def zw {env:Env}:∀{names:oj (Str×VN)}{cs:oj (Str×o3)},(∀y,(y,Vt)∈names->∃c,env.cells.lookup y=u_ c)->
  (VT names cs λx r=>(do
   if x.2== .free then
    let a<-HI env x.1
    pure (GC ((x.1,a)::r))
   else pure (GC r):Sem (ForInStep (oj (Str×o3)))))=(pure (mW env.cells names cs):Sem (oj (Str×o3)))
 | [],cs,_=>rfl
 |(n,k)::r,cs,h=>by
  rw[Uo];have Z:∀y,(y,Vt)∈r->∃c,env.cells.lookup y=u_ c:=λy hy=>h y (ui _ hy);unfold mW;by_cases O:(k==Vt)=v_
  ·have U:k= .free:=by simpa using O
   subst U;erw[h n uj,c,hc];have e:HI env n=pure c:=by unfold HI;rw[hc]
   simp![O,if_true,e,hc,T4];exact zw Z
  ·simp![A2 O,T4];exact zw Z
def kf {scope:Vr}{env:Env}(h:∀y,(y,Vt)∈scope.names->∃c,env.cells.lookup y=u_ c):Ht scope env=pure (mW env.cells scope.names []):=by
 unfold Ht;have q:=zw (cs:= []) h;show(VT scope.names ([]:oj (Str×o3)) (λx r=>(do
   if x.2== .free then
    let a<-HI env x.1
    pure (GC ((x.1,a)::r))
   else pure (GC r):Sem (ForInStep (oj (Str×o3)))))>>=λcs=>pure cs)=_
 rw[q,T4]
def ZA {env:Env}(hf:env.scope.kind= .function):∀{names:oj (Str×VN)}{x:Str},names.lookup x=u_ .free->env.kindOf x=u_ .cell->
  (names.map λ(n,k)=>if(k==Vt&&env.scope.kind== .function&&env.kindOf n==u_ .cell) then(n,gU) else(n,k)).lookup x=u_ .cell
 | [],_,h,_=>by simp at h
 |(n,k)::r,x,h,hc=>by
  have ih:= @ZA env hf r x;show Vz x ((if(k==Vt&&env.scope.kind== .function&&env.kindOf n==u_ .cell)=v_ then(n,gU) else(n,k))::_)=_
  cases O:x==n with
  |true=>
   simp![vh,O] at h;cases h;have Z:x=n:=beq_iff_eq.mp O;subst Z;rw[A3 (by rw[hf,hc];rfl)]
   simp[vh]
  |false=>
   simp![vh,O] at h;by_cases U:(k==Vt&&env.scope.kind== .function&&env.kindOf n==u_ .cell)=v_
   ·rw[A3 U];simp![vh,O];exact ih h hc
   ·rw[A2 U];simp![vh,O];exact ih h hc
def Z4 {env:Env}:∀{names:oj (Str×VN)}{x:Str},(∀y∈names,y.2≠ .cell)->
  ((names.map λ(n,k)=>if(k==Vt&&env.scope.kind== .function&&env.kindOf n==u_ .cell) then(n,gU) else(n,k)).lookup x=u_ .cell∨
   (names.map λ(n,k)=>if(k==Vt&&env.scope.kind== .function&&env.kindOf n==u_ .cell) then(n,gU) else(n,k)).lookup x=u_ .free)->(x,Vt)∈names
 | [],_,_,h=>by simp at h
 |(n,k)::r,x,hn,h=>by
  have ih:= @Z4 env r x (λy hy=>hn y (ui _ hy));have g:Vz x ((if(k==Vt&&env.scope.kind== .function&&env.kindOf n==u_ .cell)=v_ then(n,gU) else(n,k))::(r.map λ(n,k)=>if(k==Vt&&env.scope.kind== .function&&env.kindOf n==u_ .cell) then(n,gU) else(n,k)))=u_ .cell∨
   Vz x ((if(k==Vt&&env.scope.kind== .function&&env.kindOf n==u_ .cell)=v_ then(n,gU) else(n,k))::(r.map λ(n,k)=>if(k==Vt&&env.scope.kind== .function&&env.kindOf n==u_ .cell) then(n,gU) else(n,k)))=u_ .free:=h
  have aa:k≠ .cell:=hn (n,k) uj;by_cases Z:(k==Vt&&env.scope.kind== .function&&env.kindOf n==u_ .cell)=v_
  ·rw[A3 Z] at g;have hk:k= .free:=by
    rw[uF,uF] at Z
    simpa using Z.1.1
   subst hk;cases U:x==n with
   |true=>
    have O:x=n:=beq_iff_eq.mp U;subst O;exact uj
   |false=>
    simp![vh,U] at g;exact ui _ (ih g)
  ·rw[A2 Z] at g;cases U:x==n with
   |true=>
    have O:x=n:=beq_iff_eq.mp U;subst O;simp![vh,U] at g;rcases g with g|g
    ·exact A7 (uN g) aa
    ·rw[show k=Vt from uN g]
     exact uj
   |false=>
    simp![vh,U] at g;exact ui _ (ih g)
noncomputable abbrev blk (X:Cx)(scope:Vr)(Nb:oj Str)(cl:oj (Str×o3))(C:o3)(s₀:o7)(H₀:Hp)(fp:oj o3)(pn:oj (o3×Obj)):Cx:=
 {X with N:=Nb,s₀:=s₀,H₀:=H₀,env:=tZ scope cl C X.env,outer:=X.stack,ex:=fp,fn:=λ_=>V6,pn:=pn,xe:=λ_ _=>False}
structure LcS (X:Cx)(scope:Vr)(Nb:oj Str)(nt:Nat)(fr:oj Nat):Prop where
 kind:scope.kind= .function
 cell:∀y∈scope.names,y.2≠ .cell
 names:∀y∈scope.names,y.2= .local->scope.names.lookup y.1=u_ .local
 free:∀y∈scope.names,y.2= .free->X.env.kindOf y.1=u_ .cell
 len:↑Nb=nt+↑fr
 fr:∀(k j:Nat) (x:Str),fr[k]? =u_ j->Nb[nt+k]? =u_ x->X.N[j]? =u_ x/\scope.names.lookup x=u_ .free
nonrec def NS (nt:Nat)(fr:oj Nat)(σ:St):St:=GN nt U_++fr.map λj=>(σ[j]?).join
section
variable {pr:o9}{wo:og}{ar:oh}{RR:G7->o7->Prop}{st:o7}
noncomputable abbrev nb (pr:o9)(wo:og)(ar:oh)(en:Env)(RR:G7->o7->Prop):o6->o7->Prop:=notedBy (Vk pr wo) ar en λx t=>RR (.error x) t
noncomputable abbrev Ac1 (en:Env)(cs:oj Expr):Sem Bool:=VT cs v_ λc b=>if b=v_ then do let y<-isTrue c en (eval c en);pure (GC y) else pure (GC b)
def Ao {el tg Z:Expr}{cs:oj Expr}{sc:Vr}{ps:Pos}{O U:o6}{en:Env}(J:Nat->o7->Prop)
  (aa:∀k t,J k t->V7 (Vk pr wo) ar (VM O) (λr t1=>match r with
   |none=>RR (.ok .next) t1
   |some v=>V7 (Vk pr wo) ar (HQ tg O v) (λ_ t2=>V7 (Vk pr wo) ar (gW tg en v) (λ_ t3=>V7 (Vk pr wo) ar (Ac1 en cs) (λb t4=>
     if b=v_ then V7 (Vk pr wo) ar (eval el en) (λx t5=>V7 (Vk pr wo) ar (call (.builtin "list.append") [U,x]) (λ_ t6=>∃m,m<k/\J m t6) (nb pr wo ar en RR) t5) (nb pr wo ar en RR) t4
     else∃m,m<k/\J m t4) (nb pr wo ar en RR) t3) (nb pr wo ar en RR) t2) (nb pr wo ar en RR) t1) (nb pr wo ar en RR) t)
  (k:Nat) (h0:J k st):VA (Vk pr wo) ar (.compLoop (.ListComp el [⟨tg,Z,cs,(0)⟩] sc ps) 0 O U en) RR st:=by
 refine codeAny_loop rfl J (λk t hJ=>?_) k h0;show V7 _ ar ((compTurn (.ListComp el [⟨tg,Z,cs,(0)⟩] sc ps) 0 O U en).onRaise λx=>do noteFrame x en;theTreesLotGoes x) _ _ t
 rw[compTurn_list];refine wpAny_noted (A4 (Hm (A4 (thn (aa k t hJ) λr t1 q1=>?_))));cases r with
 |none=>exact Vb q1
 |some v=>
  refine A4 (thn q1 λ_ t2 q2=>A4 (thn q2 λ_ t3 q3=>A4 (thn q3 λb t4 q4=>?_)));cases b with
  |false=>exact Vb [1:q4]
  |true=>exact A4 (A4 (thn q4 λx t5 q5=>A4 (thn q5 λ_ t6 q6=>Vb (Vb [1:q6]))))
end
nonrec def Abw (X:Cx)(ifs:oj Expr)(t:TT):Prop:=
 ∀(oq:oj (o3×Obj)) (s:o7) (σ:St) (H:Hp) (Q:Bool->Hp->Prop),#[I]->t σ H Q->V7 #[X,X] X.A (Ac1 X.env ifs) (TP X oq σ Q) X.xe s
nonrec def sA:TT:=λ_ H Q=>Q v_ H
def yp {X:Cx}:Abw X [] sA:=λ_ _ _ H _ I h=>wpAny_tests_nil [H:I:h]
def Dl {X:Cx}{c:Expr}{t:TT}(h:PT X c t):Abw X [c] t:=λoq s σ H Q I O=>wpAny_tests_one (h oq s σ H Q I O)
nonrec def Ed (D:o3)(J:It)(g:TG)(tc:TT)(te:TE)(σb:St)(H1:Hp)(Q:VK):Prop:=
 ∃(n:Nat) (W:Nat->St->oj V->Hp->Prop),n<=V9/\W 0 σb [] (upd H1 D (.lst []))/\
  (∀i σ ys H,i<n->W i σ ys H->H D=u_ (.lst ys)->↑ys<=i->J.go i H/\∀x H',J.yld i H x H'->g x σ H' λσ2 H2=>tc σ2 H2 λb H3=>
   if b=v_ then te σ2 H3 λy H4=>H4 D=u_ (.lst ys)/\W (i+1) σ2 (ys++ [y]) (upd H4 D (.lst (ys++ [y]))) else H3 D=u_ (.lst ys)/\W (i+1) σ2 ys H3)/\
  ∀σ ys H,W n σ ys H->H D=u_ (.lst ys)->J.stop n H/\Q (.ref D) H
nonrec def tLC (nt:Nat)(fr:oj Nat)(wi:TI)(g:TG)(tc:TT)(te:TE):TE:=λσ H Q=>wi σ H λJ H1=>∀D,H1 D=U_->Ed D J g tc te (NS nt fr σ) H1 Q
section
variable {X:Cx}{scope:Vr}{Nb:oj Str}{nt:Nat}{fr:oj Nat}
def Pg {oq:oj (o3×Obj)}{σ:St}{H:Hp}{s:o7}{fp:oj o3}{C:o3}{h4:o8}{tk:Nat}(S:LcS X scope Nb nt fr)(I:#[I])(hC:C=#[0,s])
  (ag:h4.Ns C λ_=>U_) (U:∀b o,s.heap.get? b=u_ o->h4.get? b=u_ o) (hf:∀b∈fp,Av X oq H b) (ho:∀b∈fp,∃o,s.heap.get? b=u_ o) (ht:0<tk:=by ac_rfl):
  Inv (blk X scope Nb (mW X.env.cells scope.names []) C s H fp (X.pn++oq)) [] (NS nt fr σ) H {s with heap:=h4,toks:=tk}:=by
 subst hC;have sub:∀y c,(mW X.env.cells scope.names []).lookup y=u_ c->X.env.cells.lookup y=u_ c:=KL λy c e=>by simp at e
 have Z:∀y,(y,Vt)∈scope.names->X.env.kindOf y=u_ .cell:=λy hy=>S.free _ hy rfl;have ad:∀b o,s.heap.get? b=u_ o->b≠#[0,s]:=λb o e z=>by rw[z] at e;exact A7 (uK e) (vI _)
 have O:∀b,b≠X.env.locals->b∉X.fs->b∉frs X.stack:=λb h1 h2 z=>(A9.mp (I.stkSub b z)).elim h1 h2;exists ⟨I.ok.mod,S.kind,I.ok.glob,I.ok.blt,uq _,λx y c h1 h2=>I.ok.inj x y c (sub x c h1) (sub y c h2),λx hx=>?_,λx c z=>(by cases z),I.ok.hd,I.ok.frames,.inl rfl,λb hb=>?_,I.bs,uT I.ok.bsz I.sz,λb o e hb=>?_,λb hb=>?_,I.stack,I.stkFree⟩,1,I.bare,Un.kept U,[_:ag:λi x v e1 e2 e3=>?_],λx c e=>?_,I.hok.fresh (uq _),λx c e=>I.freeC x c (sub x c e),λp hp=>?_,I.hok.kept U,?_,ht
 ·have hm:=Z4 (env:=X.env) S.cell hx;exact Ks hm (I.ok.has x (.inl (Z x hm)))
 ·erw[ho b hb,o,e];exact[ad b o e:λx c e'=>(hf b hb).2.2.2.2.1 x c (sub x c e')]
 ·rcases(hf b hb).2.2.2.1 with z|z
  ·exact I.ok.noex b o e z
  ·exact A7 (Vn (uK e) (uT I.ok.bsz z)) (vI _)
 ·exact O b (hf b hb).2.1 (hf b hb).2.2.1
 ·
  have hi:nt<=i:=by
   rcases UG i nt with z|z
   ·unfold NS at e2;rw[UA (by simpa using z),Rt] at e2
    split at e2<;>cases e2
   ·exact z
  obtain⟨k,rfl⟩:∃k,i=nt+k:=[i-nt:()]
  unfold NS at e2;rw[Uw (by simp)] at e2
  simp![Fc,Nat.add_sub_cancel_left,uM] at e2;cases ej:fr[k]? with
  |none=>rw[ej] at e2;cases e2
  |some j=>
   rw[ej] at e2;have aa:(σ[j]?).join=u_ v:=uN e2;have ae:σ[j]? =u_ (u_ v):=by
    cases q:σ[j]? with
    |none=>rw[q] at aa;cases aa
    |some z=>rw[q] at aa;exact A8 u_ aa
   erw[S.fr k j x ej e1,n1,n2];have kx:X.env.kindOf x=u_ .cell:=Z x (vF n2);erw[I.loc,m,hn,hl];erw[hl j x v n1 ae (.inr (.inl kx)),u,r,l];exists u,r,.inr [.inl (ZA I.ok.kind n2 kx):?_];rcases l with⟨z,_⟩|⟨_,c,ec,ac⟩
   ·rw[kx] at z;cases z
   ·erw[Ks (cells:=X.env.cells) (cs:= []) (vF n2) [c:ec],c',af];have:=sub x c' af;rw[ec] at this;cases this;erw[ac,o,q,d];exact⟨c,af,o,U c o q,d⟩
 ·erw[I.cell x c (sub x c e),v,o,q,d];exact⟨v,o,U c o q,d⟩
 ·have ah:p∈X.pn++oq:=by simpa using hp
  erw[I.pin p ah,e,n,ne,nf,d];exact⟨U _ _ e,n,ad _ _ e,O _ ne nf,d⟩
 ·show(NS nt fr σ).length=↑Nb;unfold NS;rw[S.len];simp
def Ec {tg aa al:Expr}{am:oj Expr}{wi:TI}{g:TG}{tc:TT}{te:TE}{pos:Pos}{R:o6->o3->G7->o7->Prop}{oq:oj (o3×Obj)}{s:o7}{σ:St}{H:Hp}{Q:VK}(S:LcS X scope Nb nt fr)(ao:X.calm=v_)(hi:PI X tg aa wi)
  (hg:∀cl C s₀ H₀ fp pn,PG (blk X scope Nb cl C s₀ H₀ fp pn) tg g) (hc:∀cl C s₀ H₀ fp pn,Abw (blk X scope Nb cl C s₀ H₀ fp pn) am tc) (he:∀cl C s₀ H₀ fp pn,PE (blk X scope Nb cl C s₀ H₀ fp pn) al te)
  (I:#[I]) (h:tLC nt fr wi g tc te σ H Q)
  (hR:∀(D C:o3) (H':Hp) (s1:o7) (m:Str->om o6),Inv X oq σ H' s1->s1.heap.Ns C m->Av X oq H' C->Q (.ref D) H'->R (.ref D) C (.ok .next) s1):
  V7 #[X,X] X.A (eval aa X.env) (λx s₁=>V7 #[X,X] X.A (GV x) (λit s₂=>V7 #[X,X] X.A (HU []) (λax s₃=>
   V7 #[X,X] X.A (T8 scope X.env.globals (mW X.env.cells scope.names []) [] X.env.qual U_ .none (u_ X.env)) (λag s₄=>
    VA #[X,X] X.A (.compStart (.ListComp al [⟨tg,aa,am,(0)⟩] scope pos) 0 it ax {ag with scope:=relabel scope X.env}) (R ax ag.locals) s₄) X.xe s₃) X.xe s₂) X.xe s₁) X.xe s:=by
 refine thn (hi oq s σ H _ I h) λv s1 h1=>thn h1 λaS s2 h2=>?_;erw[h2,it,fp,tn,J,H2,e,I2,T,ap,f2,q2];subst e;have ay:H2 #[0,s2]=none:=I2.hok.fresh (uq _);erw[q2 _ ay,n,W,hn,w0,step,fin];generalize hD:#[0,s2]=D at*;refine vo ?_;rw[hD];have I3:Inv X oq σ (upd H2 D (.lst [])) {s2 with heap:=s2.heap.push {cls:= .type "list",data:= .seq ([]:oj o6).toArray}}:=by
  have:=I2.lnew (ys:= []) (its:= []) (t':=s2.toks) .nil (uP _);rwa[hD] at this
 refine wpAny_newFunctionEnv S.cell (by intro y hy;simp at hy) (λh4 ad aq=>?_) S.kind
 dsimp only at ad aq⊢;generalize aA:s2.heap.push {cls:= .type "list",dict:=U_,data:= .seq ([]:oj o6).toArray}=h3 at ad aq I3⊢;have hC:h3.objs.size=D+1:=by rw[<-aA,vf,hD]
 have ae:∀b o,h3.get? b=u_ o->h4.get? b=u_ o:=λb o e=>aq.extBut b o (uR (uK e)) (uh _ e);have Z:∀b o,s2.heap.get? b=u_ o->h3.get? b=u_ o:=λb o e=>by rw[<-aA];exact uh _ e
 have au:∀b∈fp,∃o,s2.heap.get? b=u_ o:=λb O=>let⟨o,e,_⟩:=T.obj _ _ ap b O;[o:e];have aG:∀b∈fp,b≠D:=λb O z=>by
  erw[au b O,o,e];have q:=uK e;rw[z,hD] at q;exact vI _ q
 have f3:∀b∈fp,Av X oq (upd H2 D (.lst [])) b:=λb O=>⟨by rw[qj (aG b O)];exact(f2 b O).1,(f2 b O).2⟩
 have IB:=Pg (C:=h3.objs.size) (h4:=h4) (tk:=s2.toks+↑([]:oj (Str×o6))) (fp:=fp) S I3 rfl ad ae f3 λb O=>let⟨o,e⟩:=au b O;[o:Z b o e];generalize U:blk X scope Nb (mW X.env.cells scope.names []) h3.objs.size {s2 with heap:=h3} (upd H2 D (.lst [])) fp (X.pn++oq)=Xb at IB
 have gB:=hg (mW X.env.cells scope.names []) h3.objs.size {s2 with heap:=h3} (upd H2 D (.lst [])) fp (X.pn++oq)
 have cB:=hc (mW X.env.cells scope.names []) h3.objs.size {s2 with heap:=h3} (upd H2 D (.lst [])) fp (X.pn++oq)
 have eB:=he (mW X.env.cells scope.names []) h3.objs.size {s2 with heap:=h3} (upd H2 D (.lst [])) fp (X.pn++oq)
 rw[U] at gB cB eB;have xP:Xb.prog=X.prog:=by rw[<-U]
 have xW:Xb.w=X.w:=by rw[<-U]
 have xK:Xb.K=X.K:=by rw[<-U]
 have xA:Xb.A=X.A:=by rw[<-U]
 have xC:Xb.calm=true:=by rwa[<-U]
 have xE:Xb.env=tZ scope (mW X.env.cells scope.names []) h3.objs.size X.env:=by rw[<-U]
 have xX:Xb.xe=λ_ _=>False:=by rw[<-U]
 have af:∀{H':Hp},(∀b∈fp,H' b=U_)->∀b∈fp,Av Xb [] H' b:=λhn b O=>by
  erw[f2 b O,g1,g2,g3,g4,g5,g6];erw[au b O,o,e];subst U;exists hn b O,λz=>?_,λz=>(A9.mp (I2.stkSub b z)).elim g2 g3,.inl O,λx c ec=>g5 x c (KL (λy c e=>by simp at e) x c ec),λp hp=>g6 p (by simpa using hp)
  have ac:=uK (Z b o e);have z':b=h3.objs.size:=z;rw[z'] at ac;exact vI _ ac
 have ah:∀s5:o7,s5={s2 with heap:=h4,toks:=s2.toks+↑([]:oj (Str×o6))}->
   VA #[X,X] X.A (.compLoop (.ListComp al [⟨tg,aa,am,(0)⟩] scope pos) 0 (.ref it) (.ref D) (tZ scope (mW X.env.cells scope.names []) h3.objs.size X.env))
    (R (.ref D) h3.objs.size) s5:=by
  rintro s5 rfl;refine Ao (λk s'=>∃i σ' ys H',Inv Xb [] σ' H' s'/\tn i s'.heap/\(∀b∈fp,H' b=U_)/\H' D=u_ (.lst ys)/\i<=n/\k=n-i/\↑ys<=i/\W i σ' ys H') ?_ n
   ⟨(0),NS nt fr σ,[],_,IB,T.keep _ _ _ ap λb O o e=>ae b o (Z b o e),λb O=>(f3 b O).1,qg,uP _,1,uq _,w0⟩
  rintro k s' ⟨i,σ',ys,H',I',aB,aC,aD,aH,rfl,aI,w'⟩;rcases UG i n with ac|aJ
  ·erw[step i σ' ys H' ac w' aD aI,go,next];have ti:=T.item Xb xP xW xK xC i [] s' σ' H' (λ_ _=>False) I' (af aC) aB go;rw[xA] at ti;refine vD ti (λr s1 h1=>?_) λ_ _ z=>z.elim;erw[h1,u,rfl,h1];refine vD h1 (λ_ aE aK=>?_) λ_ _ z=>z.elim;erw[aK,x,H5,I5,r5,y5,aw,aL];have aM:=I5.pinned (af aL) (T.obj _ _ aw);have ga:=gB _ aE σ' H5 x u _ aM r5 (next x H5 y5);rw[xP,xW,xA,xE,xX] at ga;refine vD ga (λ_ s3 aN=>?_) λ_ _ z=>z.elim;erw[aN,σ6,H6,I6,q6];have ca:=cB _ s3 σ6 H6 _ I6 q6;rw[xP,xW,xA,xE,xX] at ca;refine vD ca (λok s4 aO=>?_) λ_ _ z=>z.elim;erw[aO,H7,I7,q7];have ak:∀{σ8:St}{H8:Hp}{s8:o7},Inv Xb ([]++nX fp aE.heap) σ8 H8 s8->Inv Xb [] σ8 H8 s8/\tn (i+1) s8.heap/\∀b∈fp,H8 b=none:=λ{σ8 H8 s8} I8=>by
    exists I8.unpinned,T.keep _ _ _ aw λb O o e=>(I8.pin (b,o) (uQ _ (uQ _ (J1 O e)))).1,λb O=>?_;erw[T.obj _ _ aw b O,o,e,d];exact(I8.pin (b,o) (uQ _ (uQ _ (J1 O e)))).2.1
   cases ok with
   |false=>
    rw[A2 uc] at q7⊢;erw[ak I7,b1,b2,b3];exact⟨n-(i+1),(),i+1,σ6,ys,H7,b1,b2,b3,q7.1,ac,1,(),q7.2⟩
   |true=>
    rw[A3 rfl] at q7⊢;have ea:=eB _ s4 σ6 H7 _ I7 q7;rw[xP,xW,xA,xE,xX] at ea;refine vD ea (λy s5 h5=>?_) λ_ _ z=>z.elim;erw[h5,yv,H8,I8,r8,aP,q8];have ma:=Yz (X:=Xb) _ s5 σ6 H8 (.ref D) [yv] (.ref D) [y] (λ_ H9=>H9=upd H8 D (.lst (ys++ [yv]))) I8 rfl (.cons r8 .nil) ⟨D,ys,yv,1,1,aP,(),1⟩
    rw[xP,xW,xA,xX] at ma;refine vD ma (λ_ s6 h6=>?_) λ_ _ z=>z.elim;erw[h6,_,H9,I9,_,rfl];erw[ak I9,b1,b2,b3];exact⟨n-(i+1),(),i+1,σ6,ys++ [yv],_,b1,b2,b3,qg,ac,1,by rw[uB,v9];omega,q8⟩
  ·have aF:i=n:=Nat.le_antisymm aH aJ;subst aF;erw[fin σ' ys H' w' aD,stop,hq];have td:=T.done Xb xP xW xK xC i [] s' σ' H' (λ_ _=>False) I' (af aC) aB stop;rw[xA] at td;refine vD td (λr s1 h1=>?_) λ_ _ z=>z.elim;erw[h1,rfl,I6];erw[id I6.loc,m,hm,_];rw[xE] at hm;have aQ:H' h3.objs.size=none:=by have:=I6.free;rwa[xE] at this
   have u6:Un (frs X.stack) fp (upd H2 D (.lst [])) H' h3 s1.heap:=by have:=I6.base;subst U;exact this
   have u2:Un (frs X.stack) fp H2 (upd H2 D (.lst [])) s2.heap h3:=Un.laid (λb o e=>Z b o e) (by rw[hD];exact uq _) ay
   have aR:s1.os=s2.os:=by have:=I6.os;subst U;exact this
   have hok:HOk X.prog X.w H' s1.heap:=by
    have:=I6.hok;subst U;exact this
   refine hR D h3.objs.size H' s1 m (I2.call' (s':=s1) (ch:=fp) aR (u2.trans u6) hok I6.bare λb O=>?_) hm (I2.fpOk () aQ) hq
   erw[f2 b O,g1,g2,g3,g4,g5,g6];exact⟨g4,g2,g5,g6⟩
 exact codeAny_compStart_list (ah _ rfl) (T.self _ 0 _ _ _ (T.keep _ _ _ ap λb O o e=>ae b o (Z b o e)) (ah _ rfl))
def xN {tg O aa:Expr}{ac:oj Expr}{wi:TI}{g:TG}{tc:TT}{te:TE}{pos:Pos}(S:LcS X scope Nb nt fr)(U:X.calm=v_)(hi:PI X tg O wi)
  (hg:∀cl C s₀ H₀ fp pn,PG (blk X scope Nb cl C s₀ H₀ fp pn) tg g) (hc:∀cl C s₀ H₀ fp pn,Abw (blk X scope Nb cl C s₀ H₀ fp pn) ac tc) (he:∀cl C s₀ H₀ fp pn,PE (blk X scope Nb cl C s₀ H₀ fp pn) aa te)
  (hs:∀x,To O X.env x=pure x):PE X (.ListComp aa [⟨tg,O,ac,(0)⟩] scope pos) (tLC nt fr wi g tc te):=by
 exists 2,Q,I,h;have Z:Ht scope X.env=pure (mW X.env.cells scope.names []):=kf λy hy=>I.ok.has y (.inl (S.free _ hy rfl));rw[eval_ListComp];refine FS (use:=U_) rfl hs Z S.kind S.names ?_;refine Ec (R:=λad C=>compPost #[X,X] X.A X.xe U_ (EP X oq σ Q) ad C) S U hi hg hc he I h λD C H' s1 m I1 hm fc q=>?_;erw[fc,f0,f1,f2,f3,f4,f5];exact[m:hm:λh' ae=>⟨.ref D,H',I1.turned (t':=s1.toks) (it:=C) (λb o hb e=>(ae.2 b hb).trans e) f0 f1 f3 f4 f5,1,q⟩]
def AS {i:Nat}{y:Str}{tg O U:Expr}{Z:oj Expr}{wi:TI}{g:TG}{tc:TT}{te:TE}{pos aa py:Pos}(hN:X.N.Nodup)(ae:X.N[i]? =u_ y)(hy:Loc X.env.scope y)(S:LcS X scope Nb nt fr)(ac:X.calm=v_)(hi:PI X tg O wi)
  (hg:∀cl C s₀ H₀ fp pn,PG (blk X scope Nb cl C s₀ H₀ fp pn) tg g) (hc:∀cl C s₀ H₀ fp pn,Abw (blk X scope Nb cl C s₀ H₀ fp pn) Z tc) (he:∀cl C s₀ H₀ fp pn,PE (blk X scope Nb cl C s₀ H₀ fp pn) U te)
  (hs:∀x,To O X.env x=pure x) (af:hZ (.ListComp U [⟨tg,O,Z,(0)⟩] scope pos) (u_ (.Name y py)) aa.line X.env=pure v_)
  (hf:X.fn y=v_∨X.env.scope.names.lookup y=u_ .local):
  PS X (.Assign [.Name y py] (.ListComp U [⟨tg,O,Z,(0)⟩] scope pos) aa) (Ab8 (tLC nt fr wi g tc te) (YY i)):=by
 exists 2,D,I,h;have ad:Ht scope X.env=pure (mW X.env.cells scope.names []):=kf λy hy=>I.ok.has y (.inl (S.free _ hy rfl));rw[exec_Assign_Name_used _ _ _ _ af];refine A4 (Hm (A4 ?_));show V7 _ X.A (do let _<-comprehension (.ListComp U [⟨tg,O,Z,(0)⟩] scope pos) scope X.env _ (HU []) V6 (eval O X.env) (u_ (gW (.Name y py) X.env))) _ _ s
 refine A4 (vD (FS (use:=u_ (gW (.Name y py) X.env)) (Q:=λ_ s'=>SP X oq D .next s') rfl hs ad S.kind S.names ?_) (λ_ s' hq=>Vb (Vb hq)) λ_ _ e=>e);refine Ec (R:=λag C=>compPost #[X,X] X.A X.xe (u_ (gW (.Name y py) X.env)) (λ_ s'=>SP X oq D .next s') ag C) S ac hi hg hc he I h λA C H' s1 m I1 hm fc q=>?_;erw[fc,f0,f1,f2,f3,f4,f5];show V7 _ X.A (gW (.Name y py) X.env (.ref A)) _ _ s1;refine rg (nB (v:= .ref A) I1 hN ae hy (show ik (.ref A) (.ref A) from rfl) (λs' I' zq=>?_) hf);erw[zq,a,sb,ha]
 have ah:C≠a:=by
  rcases ha with rfl|ha
  ·exact f1
  ·exact λz=>f4 y a ha z.symm
 refine[m:hm.sameBut sb ah:λh' ak=>⟨_,H',I'.turned (t':=s'.toks) (it:=C) (λb o hb e=>(ak.2 b hb).trans e) f0 f1 f3 f4 f5,q⟩]
end
def Sl {X:Cx}{sc:Vr}{x:Str}(O:sc.kind= .function:=by rfl)(U:∀y∈sc.names,y.2≠ .cell:=by decide+kernel)(hn:∀y∈sc.names,y.2= .local->sc.names.lookup y.1=u_ .local:=by decide+kernel)
  (Z:∀y∈sc.names,y.2≠ .free:=by decide+kernel):LcS X sc [x] 1 []:=⟨O,U,hn,λy hy e=>A7 e (Z y hy),1,λk j x h=>by simp at h⟩
def Ea {X:Cx}{sc:Vr}{Nb:oj Str}{nt:Nat}{fr:oj Nat}(O:Vr)(U:oj Str)(Z:X.env.scope=O:=by rfl)(hN:X.N=U:=by rfl)(hk:sc.kind= .function:=by rfl)(hc:∀y∈sc.names,y.2≠ .cell:=by decide+kernel)
  (hn:∀y∈sc.names,y.2= .local->sc.names.lookup y.1=u_ .local:=by decide+kernel) (hf:∀y∈sc.names,y.2= .free->O.names.lookup y.1=u_ .cell:=by decide+kernel) (hl:↑Nb=nt+↑fr:=by rfl)
  (hz:((fr.zip (Nb.drop nt)).all λp=>decide (U[p.1]? =u_ p.2)&&decide (sc.names.lookup p.2=u_ .free))=true:=by decide+kernel):LcS X sc Nb nt fr:=by
 subst Z hN;exists hk,hc,hn,hf,hl,λk j x h1 h2=>?_;have hm:(fr.zip (Nb.drop nt))[k]? =u_ (j,x):=by
  rw[List.getElem?_zip_eq_some];exact⟨h1,by rwa[List.getElem?_drop]⟩
 have q:=List.all_eq_true.mp hz _ (vj hm);rw[uF] at q;exact[uw q.1:uw q.2]
def AaY {z:Str}{D:o3}{H1:Hp}{te:TE}{tl:St}{Q:VK}(f:Nat->V)(hz:↑z<=V9)(Z:H1 D=U_)
  (O:∀(i c:Nat) H (R:VK),z.cps[i]? =u_ c->ia H1 H->R (f c) H->te (u_ (.str ⟨#[c]⟩)::tl) H R)
  (hQ:∀H',ia H1 H'->H' D=u_ (.lst (z.cps.toList.map f))->Q (.ref D) H'):Ed D (Its z) (YY 0) sA te (U_::tl) H1 Q:=by
 exists z.cps.size,λi σ ys H=>(∃w,σ=w::tl)/\ys=(z.cps.toList.take i).map f/\ia H1 H,hz,[[U_:1]:1:qf Z _],?_,?_
 ·rintro i σ ys H hi ⟨⟨w,rfl⟩,rfl,sm⟩ U hy;exists hi;rintro x H' ⟨rfl,c,hc,rfl⟩;dsimp![YY,sA,Ge];rw[A3 rfl];refine O i c H' _ hc sm ⟨U,[u_ (.str ⟨#[c]⟩):1],?_,?_⟩
  ·rw[vx,show z.cps.toList[i]? =u_ c by simpa using hc]
   simp
  ·intro b o e;rw[qj (qk e Z)];exact sm b o e
 ·rintro σ ys H ⟨_,rfl,sm⟩ U;exists 1,hQ H sm ?_;rw[U,vk (by simp)]
inductive IsT (H:Hp)(p:List V->Prop)(v:V):Prop
 |mk (a:Addr)(vs:List V)(_:v= .ref a)(_:H a=u_ (.tup vs))(_:p vs)
inductive IsC (p:V->Prop)(q:List V->Prop)(vs:List V):Prop
 |mk (v:V)(r:List V)(_:vs=v::r)(_:p v)(_:q r)
mutual
noncomputable def Is (H:Hp):D->V->Prop
 | .non,v=>v= .non
 | .bl b,v=>v= .bl b
 | .int i,v=>v= .int i
 | .str z,v=>v= .str z/\↑z<=V9
 | .lst,v=>∃a xs,v= .ref a/\H a=u_ (.lst xs)
 | .dct,v=>∃a kvs,v= .ref a/\H a=u_ (.dK kvs)
 | .tup xs,v=>IsT H (IsL H xs) v
noncomputable def IsL (H:Hp):oj D->oj V->Prop
 | [],vs=>vs= []
 |x::xs,vs=>IsC (Is H x) (IsL H xs) vs
end
structure Tk (H H':Hp):Prop where
 tup:∀b xs,H b=u_ (.tup xs)->H' b=u_ (.tup xs)
 lst:∀b xs,H b=u_ (.lst xs)->∃ys,H' b=u_ (.lst ys)
 dct:∀b xs,H b=u_ (.dK xs)->∃ys,H' b=u_ (.dK ys)
def ia.tk (s:ia H H'):Tk H H':=[λb xs e=>s b _ e:λb xs e=>[xs:s b _ e]:λb xs e=>[xs:s b _ e]]
def Tk.refl (H:Hp):Tk H H:=(ia.refl H).tk
def Tk.trans (a:Tk H H1)(b:Tk H1 H2):Tk H H2:=⟨λc xs e=>b.tup c xs (a.tup c xs e),λc xs e=>let⟨ys,e1⟩:=a.lst c xs e;b.lst c ys e1,λc xs e=>let⟨ys,e1⟩:=a.dct c xs e;b.dct c ys e1⟩
variable {xs ys:oj V}
def jA.tk (k:jA p H H')(h:H p=u_ (.lst xs))(h':H' p=u_ (.lst ys)):Tk H H':=by
 exists λb zs e=>k b _ e λz=>?_,λb zs e=>?_,λb zs e=>[zs:k b _ e λz=>?_]
 ·rw[z,h] at e;cases e
 ·by_cases z:b=p
  ·exact[ys:z▸h']
  ·exact[zs:k b _ e z]
 ·rw[z,h] at e;cases e
mutual
theorem Is.mono {H H':Hp}(t:Tk H H'):∀{d:D}{v:V},Is H d v->Is H' d v
 | .non,_,h=>h
 | .bl _,_,h=>h
 | .int _,_,h=>h
 | .str _,_,h=>h
 | .lst,_,h=>by
  erw[h,a,vs,e,ha];erw[t.lst a vs ha,ys,q];exact⟨a,ys,e,q⟩
 | .dct,_,h=>by
  erw[h,a,vs,e,ha];erw[t.dct a vs ha,ys,q];exact⟨a,ys,e,q⟩
 | .tup xs,_,h=>by
  erw[h,a,vs,e,ha,O];exact⟨a,vs,e,t.tup a vs ha,IsL.mono t O⟩
theorem IsL.mono {H H':Hp}(t:Tk H H'):∀{ds:oj D}{vs:oj V},IsL H ds vs->IsL H' ds vs
 | [],_,h=>h
 |_::_,_,h=>by
  erw[h,v,r,e,h1,h2];exact⟨v,r,e,Is.mono t h1,IsL.mono t h2⟩
end
def IsL.length {H:Hp}:∀{ds:oj D}{vs:oj V},IsL H ds vs->↑vs=↑ds
 | [],_,h=>by cases(show _= [] from h);rfl
 |_::_,_,h=>by
  erw[h,v,r,rfl,_,h2];rw[uu,uu,IsL.length h2]
def IsL.get {H:Hp}:∀{ds:oj D}{vs:oj V}{i:Nat}{d:D},IsL H ds vs->ds[i]? =u_ d->∃v,vs[i]? =u_ v/\Is H d v
 | [],_,_,_,_,e=>by simp at e
 |x::_,_,0,d,h,e=>by
  erw[h,v,r,rfl,h1,_];have:x=d:=by simpa using e
  exact[v:1:this▸h1]
 |_::_,_,i+1,d,h,e=>by
  erw[h,v,r,rfl,_,h2];obtain⟨u,O,U⟩:=IsL.get (i:=i) (d:=d) h2 (by simpa using e)
  exact⟨u,by simpa using O,U⟩
def IsL.append {H:Hp}:∀{ds es:oj D}{vs us:oj V},IsL H ds vs->IsL H es us->IsL H (ds++es) (vs++us)
 | [],_,_,_,h,k=>by cases(show _= [] from h);exact k
 |_::_,_,_,_,h,k=>by
  erw[h,v,r,rfl,h1,h2];exact⟨v,0,h1,IsL.append h2 k⟩
variable {v:V}
def IsL.one {d:D}(h:Is H d v):IsL H [d] [v]:=⟨v,[],1,h,1⟩
variable {ds:oj D}
def Is.new {vs:oj V}(h:IsL H ds vs)(O:H p=U_):Is (upd H p (.tup vs)) (.tup ds) (.ref p):=
 ⟨p,vs,1,qg,h.mono (qf O _).tk⟩
nonrec def tyD:D->o6
 | .non=> .type "NoneType"
 | .bl _=> .type "bool"
 | .int _=> .type "int"
 | .str _=> .type "str"
 | .lst=> .type "list"
 | .dct=> .type "dict"
 | .tup _=> .type "tuple"
def Is.ty {d:D}(h:Is H d v):BM K H v (tyD d):=by
 cases d with
 |non=>cases(show v= .non from h);exact .non
 |bl b=>cases(show v= .bl b from h);exact .bl b
 |int i=>cases(show v= .int i from h);exact .int i
 |str z=>
  erw[h,rfl,_];exact .str z
 |lst=>
  erw[h,a,vs,rfl,ha];exact .lst ha
 |dct=>
  erw[h,a,vs,rfl,ha];exact .dK ha
 |tup xs=>
  erw[h,a,vs,rfl,ha,_];exact .tup ha
section
variable {X:Cx}
def Dy:OpR X (Vj .Gt) (λx y H Q=>∃i j,x= .str i/\y= .str j/\Q (.bl (decide (j.cps.toList<i.cps.toList))) H):=by
 exists 2,x,y,v,u,Q,I,O,U,h;erw[h,i,j,rfl,rfl,q];erw[O,t,rfl];erw[U,t',rfl];exact PySem.P.gt_str (Qp I q rfl)
def E5 (Z:X.calm=v_):Yt X (.builtin "sum") (λxs H Q=>∃(p:o3) (ns:oj Int),xs= [.ref p]/\SqL X.K H p (ns.map V.int)/\Q (.int ns.sum) H):=by
 exists 2,xs,us,Q,I,r,h;erw[h,p,ns,rfl,hp,q];erw[Jw r,u,rfl,ru];cases ru;erw[I.list hp,its,rv,pl,hz];have hi:Gq its ns:=Cj rv;erw[hi.allInts.items,ys,U];have O:s.heap.IsList p (intItems ys):=U▸pl.isList;refine uZ (n:=1) I.tk (sum_intListG (I.ok.hd Z) O λh' tk t' hk=>?_);intro htk;have e1:ns=ys.toList.map (·.1):=by
  have q1:=hi.numsOf;rw[<-nums_intItems,<-U];exact(show numsOf its.toArray.toList=ns from q1).symm
 have e2:preSum (numAt ys) ys.size=ns.sum:=by
  rw[preSum_eq,vk (by simp),e1]
 rw[e2];exact⟨.int ns.sum,H,I.kept hk,[t':1],q⟩
inductive Aap (K:PySem.W.Frag)(x:V)(y:V)(H:Hp)(Q:VK):Prop
 |mk (a:_)(b:_)(xs:_)(_:x= .ref a)(_:y= .ref b)(_:SqT K H a xs)(_:SqT K H b [])(_:Q (.bl xs.isEmpty) H)
def J8 (U:X.A.units<Vg):OpR X (Vj .Eq) (Aap X.K):=by
 exists 2,x,y,v,u,Q,I,Z,ry,h;erw[h,a,b,xs,rfl,rfl,ha,hb,q];cases Z;cases ry;erw[I.tuple ha,its,r,p,_];erw[I.tuple hb,O,r2,p2,_];cases r2;refine SeqAt.eq_tupleAt (e:=λ_=>v_) p p2 U (λj _ h2=>A7 h2 (Ur _)) ⟨.bl xs.isEmpty,H,I,?_,q⟩;show GR _=GR _;cases r with
 |nil=>rfl
 |cons _ _=>simp
inductive IX (K:PySem.W.Frag)(x:V)(y:V)(H:Hp)(Q:VK):Prop
 |mk (a:_)(b:_)(xs:_)(ys:_)(_:x= .ref a)(_:y= .ref b)(_:SqT K H a xs)(_:SqT K H b ys)(_:↑xs+↑ys<=V9)(_:(xs= []->Q (.ref b) H))(_:(xs≠ []->ys= []->Q (.ref a) H))(_:(xs≠ []->ys≠ []->∀p,H p=U_->Q (.ref p) (upd H p (.tup (xs++ys)))))
def wN:OpR X (VI .Add) (IX X.K):=by
 exists 2,x,y,v,u,Q,I,U,Z,h;erw[h,a,b,xs,ys,rfl,rfl,ha,hb,hz,q0,q1,q2];by_cases O:xs= []
 ·cases U;cases Z;erw[I.tuple ha,its,r1,p1,_];erw[I.tuple hb,aa,r2,p2,_];subst O;cases r1;erw[id p1,[c1,d1,t1,l1],o1,e1,n1,f1];erw[id p2,[c2,d2,t2,l2],o2,e2,n2,f2];simp only at e1 f1 e2 f2;subst e1 f1 e2 f2;exact Ti p1.typeIs p2.typeIs Tv tM PySem.F.slot_tuple_add UN (UF _ _) (tuple_addW0 a b _ _ n1 n2 d1 d2 l1 l2 rfl) [o1:o2:⟨.ref b,H,I,1,q0 rfl⟩]
 ·exact Op oq s σ H (.ref a) (.ref b) v u Q I U Z ⟨a,b,xs,ys,1,1,ha,hb,O,hz,q1 O,q2 O⟩
end
def Tk.updL (h:H p=u_ (.lst xs)):Tk H (upd H p (.lst ys)):=by
 exists λb zs e=>?_,λb zs e=>?_,λb zs e=>[zs:?_]
 ·rw[qj (λz=>by rw[z,h] at e;cases e)];exact e
 ·by_cases z:b=p
  ·exact⟨ys,by rw[z];exact qg⟩
  ·exact⟨zs,by rwa[qj z]⟩
 ·rw[qj (λz=>by rw[z,h] at e;cases e)];exact e
def sV {J:It}{A:o3}{H1:Hp}{te:TE}{tl:St}{Q:VK}{ds:oj D}(f:D->D)(hn:↑ds<=V9)(hA:H1 A=U_)
  (aa:∀i H,ia H1 H->i<↑ds->J.go i H) (hy:∀i H x H' d,ia H1 H->ds[i]? =u_ d->J.yld i H x H'->H'=H/\Is H d x) (U:∀H,ia H1 H->J.stop ↑ds H)
  (ac:∀d x H (R:VK),d∈ds->ia H1 H->Is H d x->(∀y H',ia H H'->Is H' (f d) y->R y H')->te (u_ x::tl) H R)
  (hQ:∀H' ys,ia H1 H'->H' A=u_ (.lst ys)->IsL H' (ds.map f) ys->Q (.ref A) H'):Ed A J (YY 0) sA te (U_::tl) H1 Q:=by
 exists ↑ds,λi σ ys H=>(∃w,σ=w::tl)/\IsL H ((ds.take i).map f) ys/\ia H1 H,hn,[[U_:1]:1:qf hA _],?_,?_
 ·rintro i σ ys H hi ⟨⟨w,rfl⟩,Z,sm⟩ O ae;exists aa i H sm hi,λx H' y=>?_;erw[hy i H x H' ds[i] sm (um hi) y,rfl,hx];dsimp![YY,sA,Ge];rw[A3 rfl];refine ac ds[i] x H' _ (uO hi) sm hx λy' H4 s4 ad=>⟨s4 _ _ O,[u_ x:1],?_,λb o e=>?_⟩
  ·have t:Tk H4 (upd H4 A (.lst (ys++ [y']))):=Tk.updL (s4 _ _ O);have e:(ds.take (i+1)).map f=(ds.take i).map f++ [f ds[i]]:=by
    rw[vx,um hi,uD]
    rfl
   rw[e];exact((Z.mono s4.tk).mono t).append (IsL.one (ad.mono t))
  ·rw[qj (qk e hA)];exact s4 b o (sm b o e)
 ·rintro σ ys H ⟨_,Z,sm⟩ O;exists U H sm,hQ H ys sm O ?_;rwa[vk (uq _)] at Z
def sU {K:o0}{a A:o3}{H1:Hp}{te:TE}{tl:St}{Q:VK}{ds:oj D}{vs:oj V}(f:D->D)(ha:H1 a=u_ (.tup vs))(U:IsL H1 ds vs)(hn:↑ds<=V9)(hA:H1 A=U_)
  (O:∀d x H (R:VK),d∈ds->ia H1 H->Is H d x->(∀y H',ia H H'->Is H' (f d) y->R y H')->te (u_ x::tl) H R)
  (hQ:∀H' ys,ia H1 H'->H' A=u_ (.lst ys)->IsL H' (ds.map f) ys->Q (.ref A) H'):Ed A (Itt K a) (YY 0) sA te (U_::tl) H1 Q:=by
 have ln:=↑U;refine sV f hn hA (λi H sm hi=>⟨vs,vs[i]'(),SqT.of (sm _ _ ha),um _⟩) (λi H x H' d sm hd y=>?_) (λH sm=>[vs:SqT.of (sm _ _ ha):()]) O hQ
 erw[y,rfl,y];erw[U.get hd,v,e1,e2];have Z:=y vs (SqT.of (sm _ _ ha));rw[e1] at Z;cases Z;exact[1:e2.mono sm.tk]
def Pc {K:o0}{a A:o3}{H1:Hp}{te:TE}{tl:St}{Q:VK}{ds:oj D}{vs:oj V}(f:D->D)(ha:H1 a=u_ (.lst vs))(U:IsL H1 ds vs)(hn:↑ds<=V9)(hA:H1 A=U_)
  (O:∀d x H (R:VK),d∈ds->ia H1 H->Is H d x->(∀y H',ia H H'->Is H' (f d) y->R y H')->te (u_ x::tl) H R)
  (hQ:∀H' ys,ia H1 H'->H' A=u_ (.lst ys)->IsL H' (ds.map f) ys->Q (.ref A) H'):Ed A (Itl K a) (YY 0) sA te (U_::tl) H1 Q:=by
 have ln:=↑U;refine sV f hn hA (λi H sm hi=>⟨vs,vs[i]'(),SqL.of (sm _ _ ha),um _⟩) (λi H x H' d sm hd y=>?_) (λH sm=>[vs:SqL.of (sm _ _ ha):()]) O hQ
 erw[y,rfl,y];erw[U.get hd,v,e1,e2];have Z:=y vs (SqL.of (sm _ _ ha));rw[e1] at Z;cases Z;exact[1:e2.mono sm.tk]
def IsL.bls {H:Hp}:∀{bs:oj Bool}{vs:oj V},IsL H (bs.map D.bl) vs->vs=bs.map V.bl
 | [],_,h=>h
 |_::_,_,h=>by
  erw[h,v,r,rfl,h1,h2];rw[IsL.bls h2,show v=_ from h1];rfl
variable {Q:VK}
def xT {i:Int}{d:D}(h:Is H (.tup ds) v)(hi:atI ds i=u_ d)(q:∀x,Is H d x->Q x H):Od K v (.int i) H Q:=by
 erw[h,a,vs,rfl,ha,O];erw[Kr hi,j,h1,h2,h3,h4,h5];erw[O.get h2,x,Z,e2];exists a,vs,i,x,1,1,SqT.of ha,?_,q x e2;have ln:=↑O;unfold atI at hi⊢;rw[ln];cases e:ixN ↑ds i with
 |none=>rw[e] at hi;cases hi
 |some k=>
  rw[e] at hi;erw[sY e,U,_];rw[h1] at U;cases U;exact Z
nonrec def inS (i j:Str):Bool:= !(Hl j i 0 ↑j 1).isEmpty
def Ph (j:Str)(c:Nat):inS ⟨#[c]⟩ j=decide (c∈j.cps.toList):=StrLaws.found_one j c
def Pr {z:Str}{g:TG}{tb:TS}{E:mU}{σ:St}{H:Hp}(O:Nat->St->Hp->Prop)(h0:O 0 σ H)
  (hs:∀(i c:Nat) σ H,z.cps[i]? =u_ c->O i σ H->g (.str ⟨#[c]⟩) σ H λZ H2=>tb {E with nx:=O (i+1),ct:=O (i+1),bk:=E.nx} Z H2) (hd:∀σ H,O z.cps.size σ H->E.nx σ H):
  ∃W:Nat->Nat->St->Hp->Prop,(∃m,W 0 m σ H)/\∀i m σ H,W i m σ H->
   ((Its z).stop i H/\E.nx σ H)∨((Its z).go i H/\∃N:St->Hp->Prop,(∀σ' H',N σ' H'->∃m',m'<m/\W (i+1) m' σ' H')/\∀x H',(Its z).yld i H x H'->g x σ H' λZ H2=>tb {E with nx:=N,ct:=N,bk:=E.nx} Z H2):=by
 exists λi m σ H=>m=z.cps.size-i/\i<=z.cps.size/\O i σ H,⟨z.cps.size,by simp,uP _,h0⟩
 rintro i m σ H ⟨rfl,hi,p⟩;by_cases U:i<z.cps.size
 ·refine .inr ⟨U,O (i+1),λσ' H' p'=>⟨z.cps.size-(i+1),(),1,U,p'⟩,λx H' y=>?_⟩
  erw[y,rfl,c,hc,rfl];exact hs i c σ _ hc p
 ·have e:i=z.cps.size:=by omega
  exact .inl [e:hd σ H (e▸p)]
def IsL.unsnoc {H:Hp}:∀{ds:oj D}{d:D}{vs:oj V},IsL H (ds++ [d]) vs->∃us x,vs=us++ [x]/\IsL H ds us/\Is H d x
 | [],d,_,h=>by
  erw[h,v,r,rfl,h1,h2];cases(show r= [] from h2)
  exact⟨[],v,1,1,h1⟩
 |e::r,d,_,h=>by
  erw[h,v,q,rfl,h1,h2];erw[IsL.unsnoc h2,us,x,rfl,h3,h4];exact⟨v::us,x,1,⟨v,us,1,h1,h3⟩,h4⟩
nonrec def isStr:D->Bool
 | .str _=>v_
 |_=>V6
nonrec def zQ:D->Bool
 | .tup _=>v_
 |_=>V6
section
variable {K:o0}
def MA {T U:String}{b:Bool}(h:(VY T==VY U)=V6)(hm:PySem.W.kitMeta U=v_)(O:(fastBuiltinMro T).map (·.contains (VY U))=u_ b):PySem.W.kitOne K (.type T) (.type U)=u_ b:=by
 unfold PySem.W.kitOne;rw[A2 (by rw[h];exact uc)]
 show(if PySem.W.kitMeta U=v_ then PySem.W.subIn K (.type T) (.type U) else U_)=u_ b
 rw[A3 hm];exact O
def Bk {T:String}(h:(VY T==VY T)=v_):PySem.W.kitOne K (.type T) (.type T)=u_ true:=by
 unfold PySem.W.kitOne;rw[A3 h]
def jR (d:D):PySem.W.kitOne K (tyD d) (.type "str")=u_ (isStr d):=by
 cases d with
 |str z=>exact Bk ()
 |_=>exact MA (b:=V6) () () ()
def xZ (d:D):PySem.W.kitOne K (tyD d) (.type "tuple")=u_ (zQ d):=by
 cases d with
 |tup z=>exact Bk ()
 |_=>exact MA (b:=V6) () () ()
end
def AaT (c k:Nat):decide ((⟨#[c]⟩:Str).cps.toList< [k])=decide (c<k):=by
 rw[vc];simp[rS]
def AaD (c k:Nat):decide ([k]<(⟨#[c]⟩:Str).cps.toList)=decide (k<c):=by
 rw[vc];simp[rS]
def Kc {X:Cx}{K:o0}(h:X.K=K):IxR X (Od K):=by subst h;exact qz
inductive AbE (K:PySem.W.Frag)(R:(It->Hp->Prop))(x:V)(H1:Hp):Prop
 |mk (a:_)(xs:_)(_:x= .ref a)(_:SqT K H1 a xs)(_:(↑xs<=V9->R (Itt K a) H1))
nonrec def Acz (K:o0)(tl:TE):TI:=λσ H R=>tl σ H λx H1=>AbE K R x H1
def Xo {X:Cx}{tg l:Expr}{tl:TE}(U:PE X l tl):PI X tg l (Acz X.K tl):=by
 exists 2,R,I,h;refine thn (U oq s σ H _ I h) λv s1 zq=>?_;erw[zq,x,H1,O,Z,q1];erw[q1,a,xs,e,hq,q];subst e;cases Z;erw[O.tuple hq,its,rv,p,hz];refine UJ (show s1.heap.IsTuple a its.toArray from p) ?_
 exists #[0,s1],[#[0,s1]],_,_,H1,1,O.kept (t':=s1.toks) λb o e=>uh _ e,WU a _,⟨_,uJ _ rfl,1,1⟩,λb hb=>?_,q hz;have e:b=#[0,s1]:=by simpa using hb
 subst e;exact O.fpOk (uq _) (O.hok.fresh (uq _))
variable {X:Cx}
def Fr:Yt X (.builtin "len") (λxs H Q=>∃p ys,xs= [.ref p]/\(SqL X.K H p ys∨SqT X.K H p ys)/\(↑ys<=V9->Q (.int ↑ys) H)):=by
 exists 2,xs,us,Q,I,r,h;erw[h,p,ys,e,O,q];have U:↑ys<=sizeLine:=by
  rcases O with O|O
  ·exact(I.list O).choose_spec.2.2
  ·exact(I.tuple O).choose_spec.2.2
 exact qD oq s σ H xs us Q I r ⟨p,ys,e,O,q U⟩
variable {n:Nat}
def JU (h:n<=↑xs):ni xs (u_ (n:Int)) U_=xs.drop n:=by
 unfold ni;rw[HT.sIx_none,HT.sIx_nat,FT h];exact vk (by rw[vN];exact uq _)
end L2
namespace L2
open PySem PySem.Spec PyProof.Rows Builtin Builtin.Str
nonrec def mO (c:Nat):oj Nat->Nat->oj Nat
 | [],_=> []
 |a::r,i=>if a=c then i::mO c r (i+1) else mO c r (i+1)
nonrec def iV (c:Nat):Nat->oj Nat->oj (oj Nat)
 |0,L=> [L]
 |_+1,[]=> [[]]
 |n+1,a::r=>if a=c then []::iV c n r else match iV c (n+1) r with
  |p::q=>(a::p)::q
  | []=> [[a]]
nonrec def ofL (l:oj Nat):Str:=⟨l.toArray⟩
def Q8 (z:Str):ofL z.cps.toList=z:=by
 unfold ofL;simp
def Jl (c:Nat):∀(n:Nat) (L:oj Nat),∃p q,iV c n L=p::q
 |0,L=>⟨L,[],by simp[iV]⟩
 |n+1,[]=>⟨[],[],by simp[iV]⟩
 |n+1,a::r=>by
  by_cases h:a=c
  ·exact⟨[],iV c n r,by simp[iV,h]⟩
  ·erw[Jl c (n+1) r,p,q,e];exact⟨a::p,q,by simp[iV,h,e]⟩
def BG {c:Nat}{n:Nat}{r:oj Nat}:∀{p:oj Nat},c∉p->iV c (n+1) (p++c::r)=p::iV c n r
 | [],_=>by simp[iV]
 |a::p,h=>by
  have h1:a≠c:=λe=>h (by simp[e])
  have O:=BG (n:=n) (r:=r) (p:=p) (λz=>h (ui _ z));show iV c (n+1) (a::(p++c::r))=_;rw[iV,A2 h1,O]
def wI {c:Nat}{n:Nat}:∀{p:oj Nat},c∉p->iV c n p= [p]
 | [],_=>by cases n<;>simp[iV]
 |a::p,h=>by
  have h1:a≠c:=λe=>h (by simp[e])
  cases n with
  |zero=>simp[iV]
  |succ n=>
   have O:=wI (n:=n+1) (p:=p) (λz=>h (ui _ z));rw[iV,A2 h1,O]
def BS (x:Str)(c i:Nat)(h:i<↑x):subAt x ⟨#[c]⟩ i=decide (x.cps.toList[i]? =u_ c):=by
 rw[StrLaws.subAt_eq];have O:i<↑x.cps.toList:=by simpa [VU] using h
 have U:(x.cps.toList.drop i).take 1= [x.cps.toList[i]]:=by
  rw[vb O]
  rfl
 show((x.cps.toList.drop i).take 1== [c])=_;rw[U,um O];generalize x.cps.toList[i]=k;by_cases e:k=c
 ·simp[e]
 ·simp[e]
def oB (x:Str)(c n:Nat):∀(m k:Nat) (found:Array Nat) (free:Nat),k+m=↑x+1->free<=k->
  (VT (GG k m) (found,free) (Gh x ⟨#[c]⟩ ↑x n)).run.fst.toList=found.toList++(mO c (x.cps.toList.drop k) k).take (n-found.size)
 |0,k,found,free,hk,_=>by
  have hl:↑x.cps.toList<=k:=by simp[VU] at hk⊢;omega
  rw[Uf hl];simp[mO]
 |m+1,k,found,free,hk,hf=>by
  rw[List.range'_succ,Uo];unfold Gh;have ac:↑x.cps.toList=↑x:=by simp[VU]
  by_cases Z:k<↑x
  ·have aa:k<↑x.cps.toList:=by omega
   rw[vb aa];have hs:=BS x c k Z;rw[um aa] at hs;by_cases e:x.cps.toList[k]=c
   ·have O:subAt x ⟨#[c]⟩ k=true:=by rw[hs,e];simp
    by_cases hn:found.size<n
    ·rw[A3 ⟨⟨[hn:hf],by show k+1<=↑x;omega⟩,O⟩]
     have U:=oB x c n m (k+1) (found.push k) (k+1) () (uq _)
     show(VT (GG (k+1) m) (found.push k,k+1) (Gh x ⟨#[c]⟩ ↑x n)).run.fst.toList=_;rw[U];rw[mO,A3 e,tS,R9];obtain⟨j,hj⟩:∃j,n-found.size=j+1:=[n-found.size-1:()]
     rw[hj,Tb,show n-(found.size+1)=j by omega]
     simp
    ·rw[A2 (λz=>hn z.1.1.1)];have U:=oB x c n m (k+1) found free () ()
     show(VT (GG (k+1) m) (found,free) (Gh x ⟨#[c]⟩ ↑x n)).run.fst.toList=_;rw[U,show n-found.size=0 by omega]
     simp
   ·have O:¬subAt x ⟨#[c]⟩ k=true:=by rw[hs];intro z;exact e (uN (uw z))
    rw[A2 (λz=>O z.2)];have U:=oB x c n m (k+1) found free () ()
    show(VT (GG (k+1) m) (found,free) (Gh x ⟨#[c]⟩ ↑x n)).run.fst.toList=_;rw[U,mO,A2 e]
  ·rw[A2 (λz=>Z (by have:=z.1.2;show k<↑x;have h1:k+1<=↑x:=this;omega))]
   have U:=oB x c n m (k+1) found free () ()
   show(VT (GG (k+1) m) (found,free) (Gh x ⟨#[c]⟩ ↑x n)).run.fst.toList=_;rw[U];have h1:↑x.cps.toList<=k:=by omega
   rw[Uf h1,Uf ()]
   simp[mO]
def Kg (x:Str)(c n:Nat):occurrences x ⟨#[c]⟩ 0 ↑x n=(mO c x.cps.toList 0).take n:=by
 rw[Rr];have:=oB x c n (↑x+1) 0 #[] 0 () (uq _)
 simpa using this
nonrec def att (p:oj Nat):oj (oj Nat)->oj (oj Nat)
 |q::r=>(p++q)::r
 | []=> [p]
def Lb (x:Str)(c:Nat):∀(m n a b:Nat),a<=b->b+m=↑x->
  HC x 1 a ((mO c (x.cps.toList.drop b) b).take n)=(att ((x.cps.toList.drop a).take (b-a)) (iV c n (x.cps.toList.drop b))).map ofL:=by
 have ac:↑x.cps.toList=↑x:=by simp[VU]
 have O:∀i j,strSub x i j=ofL ((x.cps.toList.drop i).take (j-i)):=λi j=>by
  rw[<-Q8 (strSub x i j),Rf]
 intro m
 induction m with
 |zero=>
  intro n a b aa hb;have h1:x.cps.toList.drop b= []:=Uf ()
  rw[h1];have e1:iV c n []= [[]]:=by cases n<;>simp[iV]
  rw[e1];simp![mO,List.take_nil,HC,att,vg,uC,U7];rw[O,show ↑x-a=b-a by omega]
 |succ m ih=>
  intro n a b aa hb;have U:b<↑x.cps.toList:=by omega
  rw[vb U];cases n with
  |zero=>
   simp![List.take_zero,HC,iV,att,uC,U7];rw[O,<-vb U];have Z:(x.cps.toList.drop a).take (↑x-a)=x.cps.toList.drop a:=vk (by rw[vN];omega)
   have e3:x.cps.toList.drop b=(x.cps.toList.drop a).drop (b-a):=by rw[List.drop_drop];congr 1;omega
   rw[Z,e3,Te]
  |succ n=>
   by_cases e:x.cps.toList[b]=c
   ·rw[mO,A3 e,Tb,HC,iV,A3 e];rw[ih n (b+1) (b+1) (uq _) ()]
    erw[Jl c n (x.cps.toList.drop (b+1)),p,q,Z];rw[Z,O];simp[att]
   ·rw[mO,A2 e,ih (n+1) a (b+1) () (),iV,A2 e]
    erw[Jl c (n+1) (x.cps.toList.drop (b+1)),p,q,Z];rw[Z];simp![att,uC]
    congr 2
    have e3:b+1-a=(b-a)+1:=by omega
    have hx:b-a<↑(x.cps.toList.drop a):=by rw[vN];omega
    rw[e3,List.take_succ_eq_append_getElem hx];simp[show a+(b-a)=b by omega]
def nZ (x:Str)(c n:Nat):partsBetween x (occurrences x ⟨#[c]⟩ 0 ↑x n) 1=(iV c n x.cps.toList).map ofL:=by
 rw[StrLaws.partsBetween_eq,Kg];have:=Lb x c ↑x n 0 0 (uq _) ()
 rw[Hr] at this;rw[this];erw[Jl c n x.cps.toList,p,q,e];rw[e];simp[att]
def Z9 {c:Nat}:∀{L:oj Nat}{i:Nat},mO c L i= []->c∉L
 | [],_,_=>by simp
 |a::r,i,h=>by
  by_cases e:a=c
  ·simp[mO,e] at h
  ·rw[mO,A2 e] at h;have:=Z9 h;simp[Ux e,this]
def X5:∀(l:oj Str) (k:Nat),im (l.map V.str) (strsFrom k l)
 | [],_=> .nil
 |x::r,k=> .cons [k:1] (X5 r (k+1))
def XA:∀{l:oj Str}{us:oj o6},im (l.map V.str) us->∃ps:oj (Str×Tok),us=hX ps/\ps.map (·.1)=l
 | [],_,.nil=>[[]:1:1]
 |x::r,_,.cons ⟨t,e⟩ h=>by
  erw[XA h,ps,O,U];subst e;exact⟨(x,t)::ps,by rw[O];rfl,by rw[uC,U]⟩
def WN (z:Str):¬Vy z<Vy " ":=by
 have h1:Vy " "=1:=by decide+kernel
 rw[h1];unfold Vy;split
 ·omega
 ·split<;>omega
def kU (c:Nat):∀(n:Nat) (L:oj Nat),↑(iV c n L)<=↑L+1
 |0,L=>by simp[iV]
 |n+1,[]=>by simp[iV]
 |n+1,a::r=>by
  by_cases h:a=c
  ·have:=kU c n r;simp[iV,h];omega
  ·have:=kU c (n+1) r;erw[Jl c (n+1) r,p,q,e];rw[e] at this;simp![iV,A2 h,e];simp at this⊢;omega
nonrec def spl (n:Nat)(z:Str):oj Str:=(iV 32 n z.cps.toList).map ofL
def CS (n:Nat)(z:Str):↑(spl n z)<=↑z+1:=by
 unfold spl;rw[ud];have:=kU 32 n z.cps.toList
 simpa [VU] using this
def J5:(" ":Str)=⟨#[32]⟩:=by decide+kernel
variable {z:Str}{n:Nat}
def CQ (hn:↑z<=n∨↑z<1∨True)(h:(occurrences z " " 0 ↑z n).isEmpty=v_)(h0:n≠0):spl n z= [z]:=by
 rw[J5,Kg,List.isEmpty_iff] at h;have h1:mO 32 z.cps.toList 0= []:=by
  cases e:mO 32 z.cps.toList 0 with
  |nil=>rfl
  |cons a r=>
   rw[e] at h;obtain⟨k,rfl⟩:∃k,n=k+1:=[n-1:()]
   simp at h
 unfold spl;rw[wI (Z9 h1)];simp[Q8]
section
variable {X:Cx}
inductive Aam (x:V)(vs:List V)(H:Hp)(Q:VK):Prop
 |mk (z:_)(_:x= .str z)(_:vs= [.str " "])(_:↑z<=1000)(_:∀p,H p=U_->Q (.ref p) (upd H p (.lst ((spl (↑z+1) z).map V.str))))
variable {oq:oj (o3×Obj)}{σ:St}{H:Hp}{s:o7}{Q:VK}{ys:oj V}{its:oj o6}{t':Nat}
def J2 (I:#[I])(O:im ys its)(U:↑ys<=V9)(q:∀p,H p=U_->Q (.ref p) (upd H p (.lst ys)))(Z:0<t':=by ac_rfl):
  EP X oq σ Q (.ref #[0,s]) {s with heap:=s.heap.push {cls:= .type "list",data:= .seq its.toArray},toks:=t'}:=
 ⟨.ref #[0,s],_,I.lnew O U,1,q _ I.fresh⟩
def Bg:MtM X "str.split" Aam:=by
 exists 2,x,vs,v,us,Q,I,Z,rv,h;erw[h,z,rfl,rfl,hz,q];erw[Z,t,rfl];erw[rv.one,u,rfl,t',rfl];have O:↑z<=sizeLine:=by rw[uI];omega
 have one:spl (↑z+1) z= [z]->∀(T:Nat),0<T->EP X oq σ Q (.ref #[0,s]) {s with heap:=s.heap.push {cls:= .type "list",data:= .seq [Vu z t].toArray},toks:=T}:=λe T hT=>by
  rw[e] at q;exact J2 (ys:= [V.str z]) I (.cons (show ik (V.str z) _ from[t:1]) .nil) (by show 1<=V9;decide) q
 cases h1:(decide (↑z<(" ":Str).length)||decide (Vy z<Vy " ")) with
 |true=>
  refine vH vE (vL _ _ _) vy (vV _ _) (Fi z " " t t' h1) ?_;have h2:↑z<1:=by
   rw[Ho] at h1;rcases h1 with h1|h1
   ·exact uw h1
   ·exact A7 (uw h1) (WN z)
  refine one ?_ s.toks I.tk;have e:z.cps.toList= []:=Ua (by simpa [VU] using h2)
  unfold spl;rw[e,iV];rw[<-Q8 z,e]
  rfl
 |false=>
  cases U:(occurrences z " " 0 ↑z (↑z+1)).isEmpty with
  |true=>
   refine vH vE (vL _ _ _) vy (vV _ _) (Fa z " " t t' h1 () U) ?_
   exact one (CQ (.inr (.inr trivial)) U ()) s.toks I.tk
  |false=>
   have hl:=CS (↑z+1) z;have e:partsBetween z (occurrences z " " 0 ↑z (↑z+1)) (" ":Str).length=spl (↑z+1) z:=by
    rw[J5];exact nZ z 32 (↑z+1)
   refine vH vE (vL _ _ _) vy (vV _ _) (TX z " " t t' h1 () U O (by rw[e,uI];omega)) ?_
   rw[e];exact J2 I (X5 _ _) (by rw[ud,uI];omega) q
def xF (x y:Str)(k:Int)(t u v:Tok)(Z:(decide (k< -(2^63:Int))||decide (k≥2^63))=V6)(h1:(decide (↑x<↑y)||decide (Vy x<Vy y))=V6)(hy:(↑y==0)=V6)
  (hf:(occurrences x y 0 ↑x (GU x k)).isEmpty=v_):Meets («str.split» [[.str x t,.str y u,.int k v]:[]]) (rX x t):=by
 erw[Fk x y k t u v Z,U,O];refine .of_wp λprog w A R s h=>?_;rw[O,h1,hy,hf];show V7 _ _ (do rule "str.split.same-object";ret (<-HU [.str x t])) _ _ s
 exact A4 (Uu (A4 (tm (Vb [0:h]) (by show 1<=V9;decide))))
def Jc (x y:Str)(k:Int)(t u v:Tok)(Z:(decide (k< -(2^63:Int))||decide (k≥2^63))=V6)(h1:(decide (↑x<↑y)||decide (Vy x<Vy y))=v_):
  Meets («str.split» [[.str x t,.str y u,.int k v]:[]]) (rX x t):=by
 erw[Fk x y k t u v Z,U,O];refine .of_wp λprog w A R s h=>?_;rw[O,h1];show V7 _ _ (do rule "str.split.sep-cannot-occur";ret (<-HU [.str x t])) _ _ s
 exact A4 (Uu (A4 (tm (Vb [0:h]) (by show 1<=V9;decide))))
inductive Oa (x:V)(vs:List V)(H:Hp)(Q:VK):Prop
 |mk (z:Str)(n:Nat)(_:x= .str z)(_:vs= [.str " ",.int (n:Int)])(_:↑z<=1000)(_:0<n)(_:n<=1000)(_:∀p,H p=U_->Q (.ref p) (upd H p (.lst ((spl n z).map V.str))))
def D0:MtM X "str.split" Oa:=by
 exists 2,x,vs,v,us,Q,I,rx,rv,h;erw[h,z,n,rfl,rfl,hz,ac,hn,q];erw[rx,t,rfl];erw[Ct rv,u,u',rfl,[t',rfl],[U,rfl]];have aa:↑z<=sizeLine:=by rw[uI];omega
 have hk:(decide ((n:Int)< -(2^63:Int))||decide ((n:Int)≥2^63))=false:=by
  rw[ue (),ue ()];rfl
 have O:GU z (n:Int)=n:=by
  unfold GU;rw[A2 ()]
  omega
 have one:spl n z= [z]->∀(T:Nat),0<T->EP X oq σ Q (.ref #[0,s]) {s with heap:=s.heap.push {cls:= .type "list",data:= .seq [Vu z t].toArray},toks:=T}:=λe T hT=>by
  rw[e] at q;exact J2 (ys:= [V.str z]) I (.cons (show ik (V.str z) _ from[t:1]) .nil) (by show 1<=V9;decide) q
 cases h1:(decide (↑z<(" ":Str).length)||decide (Vy z<Vy " ")) with
 |true=>
  refine vH vE (vL _ _ _) vy (F.args_str_split_3 _ _ _) (Jc z " " n t t' U hk h1) ?_;have h2:↑z<1:=by
   rw[Ho] at h1;rcases h1 with h1|h1
   ·exact uw h1
   ·exact A7 (uw h1) (WN z)
  refine one ?_ s.toks I.tk;have e:z.cps.toList= []:=Ua (by simpa [VU] using h2)
  obtain⟨j,rfl⟩:∃j,n=j+1:=[n-1:()]
  unfold spl;rw[e,iV];rw[<-Q8 z,e]
  rfl
 |false=>
  cases Z:(occurrences z " " 0 ↑z (GU z (n:Int))).isEmpty with
  |true=>
   refine vH vE (vL _ _ _) vy (F.args_str_split_3 _ _ _) (xF z " " n t t' U hk h1 () Z) ?_
   rw[O] at Z;exact one (CQ (.inr (.inr trivial)) Z ()) s.toks I.tk
  |false=>
   have hl:=CS n z;have e:partsBetween z (occurrences z " " 0 ↑z (GU z (n:Int))) (" ":Str).length=spl n z:=by
    rw[J5,O];exact nZ z 32 n
   refine vH vE (vL _ _ _) vy (F.args_str_split_3 _ _ _) (meets_str_split_sep_max z " " n t t' U hk h1 () Z aa (by rw[e,uI];omega)) ?_
   rw[e];exact J2 I (X5 _ _) (by rw[ud,uI];omega) q
nonrec def xb (c:Nat):oj Nat->oj Nat
 | []=> []
 |a::r=>if a=c then [] else a::xb c r
def oN {c:Nat}:∀{L:oj Nat}{i j:Nat}{r:oj Nat},mO c L i=j::r->i<=j/\xb c L=L.take (j-i)
 | [],_,_,_,h=>by simp[mO] at h
 |a::q,i,j,r,h=>by
  by_cases e:a=c
  ·rw[mO,A3 e] at h;cases h;exact⟨uq _,by simp[xb,e]⟩
  ·rw[mO,A2 e] at h;erw[oN h,h1,h2];exists ()
   rw[xb,A2 e,h2,show j-i=(j-(i+1))+1 by omega,Tb]
def zo {c:Nat}:∀{L:oj Nat},c∉L->xb c L=L
 | [],_=>rfl
 |a::r,h=>by
  have h1:a≠c:=λe=>h (by simp[e])
  rw[xb,A2 h1,zo λz=>h (ui _ z)]
nonrec def hd (z:Str):Str:=ofL (xb 32 z.cps.toList)
def EH (I:#[I])(O:im ys its)(U:↑ys<=V9)(q:∀p,H p=U_->Q (.ref p) (upd H p (.tup ys)))(Z:0<t':=by ac_rfl):
  EP X oq σ Q (.ref #[0,s]) {s with heap:=s.heap.push {cls:= .type "tuple",data:= .seq its.toArray},toks:=t'}:=
 ⟨.ref #[0,s],_,I.laid (o:= .tup ys) (λ_ _ w=>uh _ w) (uq _) ⟨U,its,O,GW _ _⟩,1,q _ I.fresh⟩
inductive Acj (x:V)(vs:List V)(H:Hp)(Q:VK):Prop
 |mk (z:_)(_:x= .str z)(_:vs= [.str " "])(_:↑z<=1000)(_:∀p a b,H p=U_->Q (.ref p) (upd H p (.tup [.str (hd z),.str a,.str b])))
def O8:MtM X "str.partition" Acj:=by
 exists 2,x,vs,v,us,Q,I,rx,rv,h;erw[h,z,rfl,rfl,hz,q];erw[rx,t,rfl];erw[rv.one,u,rfl,t',rfl];have U:↑z<=sizeLine:=by rw[uI];omega
 refine vH F.slot_str_partition (vL _ _ _) F.entry_str_partition (F.args_str_partition_2 _ _) (meets_str_partition z " " t t' () U) ?_
 cases O:occurrences z " " 0 ↑z 1 with
 |nil=>
  have h0:hd z=z:=by
   rw[J5,Kg] at O;have h1:mO 32 z.cps.toList 0= []:=by
    cases e:mO 32 z.cps.toList 0 with
    |nil=>rfl
    |cons a r=>rw[e] at O;simp at O
   unfold hd;rw[zo (Z9 h1),Q8]
  refine EH (ys:= [.str (hd z),.str tT,.str tT]) (t':=s.toks+1) I (.cons (show ik (V.str (hd z)) _ from⟨t,by rw[h0]⟩) (.cons (show ik (V.str _) _ from⟨0⟩) (.cons (show ik (V.str _) _ from⟨0⟩) .nil))) (by show 3<=V9;decide) λp Z=>q p _ _ Z
 |cons i r=>
  have h0:hd z=strSub z 0 i:=by
   rw[J5,Kg] at O;cases e:mO 32 z.cps.toList 0 with
   |nil=>rw[e] at O;simp at O
   |cons a r'=>
    rw[e] at O;have:a=i:=by simp at O;exact O.1
    subst this;erw[oN e,_,h2];unfold hd;rw[h2,<-Q8 (strSub z 0 a),Rf,Hr]
  refine EH (ys:= [.str (hd z),.str " ",.str _]) (t':=s.toks+1+1) I (.cons (show ik (V.str (hd z)) _ from⟨s.toks,by rw[h0]⟩) (.cons (show ik (V.str _) _ from[t':1]) (.cons (show ik (V.str _) _ from[s.toks+1:1]) .nil))) (by show 3<=V9;decide) λp Z=>q p _ _ Z
inductive Aao (K:PySem.W.Frag)(x:V)(vs:List V)(H:Hp)(Q:VK):Prop
 |mk (sep:Str)(p:Addr)(l:List Str)(_:x= .str sep)(_:vs= [.ref p])(_:SqL K H p (l.map V.str))(_:(l.map (·.length)).sum+↑l*↑sep<=1000000)(_:Q (.str (Vf sep l)) H)
def KO:MtM X "str.join" (Aao X.K):=by
 exists 2,x,vs,v,us,Q,I,rx,rv,h;erw[h,sep,p,l,rfl,rfl,hp,hz,q];erw[rx,t,rfl];erw[rv.one,u,rfl,ru];cases ru;erw[I.list hp,its,r,pl,hl];erw[XA r,ps,rfl,Z];have U:tooLong ((ps.map (·.1)).toArray.foldl (·+ ·.length+↑sep) 0)=false:=by
  rw[Z];have:=RD sep l;rw[this];unfold tooLong;refine ue ?_;rw[uI];omega
 refine vH F.slot_str_join (vL _ _ _) F.entry_str_join (F.args_str_join_2 _ _) (meets_str_join_list sep t p ps U) [pl.isList:?_];have O:(glued sep (ps.map (·.1))).length<=sizeLine:=Rz U
 match ps,Z,O with
 | [],Z,O=>
  subst Z;exact⟨O,.str _,H,I.tok _,⟨0⟩,q⟩
 | [a],Z,_=>
  subst Z;exact⟨.str _,H,I,[a.2:1],q⟩
 |a::b::r,Z,O=>
  subst Z;exists O,.str _,H,I.tok _,⟨0⟩;rw[Fb];exact q
def Ia:Yt X (.type "int") (λxs H Q=>∃z n,xs= [.str z]/\PySem.intText? z=u_ n/\↑z<=640/\Q (.int n) H):=by
 exists 2,xs,us,Q,I,r,h;erw[h,z,n,rfl,hn,O,q];erw[Jw r,u,rfl,t,rfl];exact PySem.W.KIN.call_text hn O ⟨.int n,H,I.tok _,⟨0⟩,q⟩
end
end L2
namespace L2
open PySem PySem.Spec PyProof.Rows
variable {X:Cx}{oq:oj (o3×Obj)}{σ:St}{H:Hp}{s:o7}{h':o8}{t':Nat}{fp:oj o3}
def Inv.turnedL (I:#[I])(k:∀b o,b∉fp->s.heap.get? b=u_ o->h'.get? b=u_ o)(U:∀b∈fp,Av X oq H b)(ht:0<t':=by ac_rfl):Inv X oq σ H {s with heap:=h',toks:=t'}:=by
 have Z:∀b u,H b=u_ u->b∉fp:=λb u e z=>by
  have:=(U b z).1;rw[this] at e;cases e
 have nL:X.env.locals∉fp:=λz=>(U _ z).2.1 rfl;refine I.step (g':=s.gens) (d':=s.drawn) (ch:=fp) (λb hb=>⟨(U b hb).2.2.2.1,(U b hb).2.1,(U b hb).2.2.2.2.1,(U b hb).2.2.2.2.2⟩) (λb o _ _ O e _=>k b o O e) (λb o _ _ O e _=>[o.slots:k b o O e]) (λ_ _ _ _ n=>n)
  (λb o O e=>[o:k b o O e]) (λ_ _ e=>e) (λ_ _ _ e=>e) (λb ps e=>⟨#[],by rw[e];simp⟩) (λm hm=>?_) (λb u e=>?_) I.bare
 ·erw[hm,o,es,ep,ho,r];exact⟨o,es,ep,k _ o nL ho,r⟩
 ·refine(I.hok b u e).stay (λc v O q=>k c v ?_ q) (λ_ q=>q) λ_ _ q=>q;rcases O with z|z
  ·rw[z];exact Z b u e
  ·exact Z c _ z
def Inv.handed {X:Cx}{oq:oj (o3×Obj)}{σ:St}{H:Hp}{s:o7}{h':o8}{t':Nat}{fp:oj o3}{ys:oj V}{its:oj o6}(I:#[I])(Z:∀b∈fp,Av X oq H b)(hl:∀b∈fp,b<#[0,s])(hv:im ys its)(hz:↑ys<=V9)
  (hn:h'.get? #[0,s]=u_ {cls:= .type "tuple",data:= .seq its.toArray}) (hs:h'.objs.size=#[0,s]+1) (k:∀b o,b∉fp->s.heap.get? b=u_ o->h'.get? b=u_ o) (ht:0<t':=by ac_rfl):
  Inv X oq σ (upd H #[0,s] (.tup ys)) {s with heap:=h',toks:=t'}/\∀b∈fp,Av X oq (upd H #[0,s] (.tup ys)) b:=by
 have I1:Inv X oq σ (upd H #[0,s] (.tup ys)) {s with heap:=s.heap.push {cls:= .type "tuple",data:= .seq its.toArray},toks:=t'}:=
  I.laid (o:= .tup ys) (λ_ _ w=>uh _ w) (uq _) ⟨hz,its,hv,GW _ _⟩
 have O:∀b∈fp,Av X oq (upd H #[0,s] (.tup ys)) b:=λb U=>by
  erw[Z b U,f0,f1,f2,f3,f4,f5];have:=hl b U;exact⟨by rwa[qj (uR this)],f1,f2,f3,f4,f5⟩
 exists I1.turnedL (h':=h') (t':=t') (λb o U e=>?_) O,O;rcases Heap.get?_push_cases (show(s.heap.push {cls:= .type "tuple",data:= .seq its.toArray}).get? b=u_ o from e) with⟨rfl,rfl⟩|e'
 ·exact hn
 ·exact k b o U e'
nonrec def Itz (K:o0)(a b:o3):It:=
 ⟨λi H=>∃xs ys x y,SqT K H a xs/\SqL K H b ys/\xs[i]? =u_ x/\ys[i]? =u_ y,
  λi H v H'=>∃p x y,v= .ref p/\H p=U_/\H'=upd H p (.tup [x,y])/\(∀xs,SqT K H a xs->xs[i]? =u_ x)/\∀ys,SqL K H b ys->ys[i]? =u_ y,
  λi H=>∃xs,SqT K H a xs/\↑xs=i⟩
nonrec def tnZ (a b z p r i j:o3)(k:Nat)(h:o8):Prop:=
 VC h z p r .none/\Vo h p (.ref i) (.ref j)/\(∃u v,Vo h r u v)/\h.IsTupleIter i a k/\h.IsListIter j b k/\AwZ.Apt z p r i j a b
variable {w:og}{K:o0}
def Iv {P:o9}{aa:oj Expr}{c:Nat}{tp:Pos}(a b z p r i j:o3):PL P w K (.Tuple aa c tp) (Itz K a b) [z,p,r,i,j] z (tnZ a b z p r i j) where
 mem:=by simp
 obj:=λk h st x hx=>by
  erw[st,h1,h2,[u,v,h3],[o4,e4,c4,d4],[o5,e5,c5,d5],D];simp![uG,vi,uS] at hx;rcases hx with rfl|rfl|rfl|rfl|rfl
  ·exact⟨_,h1,λv z=>by cases z⟩
  ·exact⟨_,h2,λv z=>by cases z⟩
  ·exact⟨_,h3,λv z=>by cases z⟩
  ·exact⟨o4,e4,λv z=>by rw[d4] at z;cases z⟩
  ·exact⟨o5,e5,λv z=>by rw[d5] at z;cases z⟩
 keep:=λk h h' st kk=>by
  erw[st,h1,h2,[u,v,h3],[o4,e4,r4],[o5,e5,r5],D];exact⟨kk z (by simp) _ h1,kk p (by simp) _ h2,⟨u,v,kk r (by simp) _ h3⟩,⟨o4,kk i (by simp) _ e4,r4⟩,⟨o5,kk j (by simp) _ e5,r5⟩,D⟩
 item:=by
  intro X hP hw hK O k oq s σ H E I hf st hg;subst hP hw hK;erw[hg,xs,ys,x,y,ha,hb,hx,hy];erw[I.tuple ha,its,ra,pa,za];erw[I.list hb,ak,rb,pb,zb];erw[ra.get hx,ux,ae,af];erw[rb.get hy,uy,ag,ah];erw[st,h1,h2,[u,v,h3],h4,h5,D];have l1:=uK h1;have l2:=uK h2;have l3:=uK h3;have l4:i<#[0,s]:=by erw[h4,o,e,_];exact uK e
  have l5:j<#[0,s]:=by erw[h5,o,e,_];exact uK e
  refine AwZ.zip_go D h1 h2 h3 h4 h5 (show s.heap.IsTuple a its.toArray from pa) pb.isList (x:=ux) (y:=uy) (by simpa using ae) (by simpa using ag) λh' g1 g2 g3 g4 g5 g6 g7=>?_
  have g8:Vo h' p (.ref i) (.ref j):=g7 _ _ D.pz D.pr D.pi D.pj h2;obtain⟨I1,ac⟩:=I.handed (t':=s.toks) (ys:= [x,y]) (its:= [ux,uy]) hf (λc O=>by
   simp![uG,vi,uS] at O;rcases O with rfl|rfl|rfl|rfl|rfl<;>assumption) (.cons af (.cons ah .nil)) (by show 2<=V9;decide) g5 g6 (λc o O e=>by
    simp![uG,vi,uS,V3] at O;exact g7 c o O.1 O.2.2.1 O.2.2.2.1 O.2.2.2.2 e)
  exists 0,wpAny_letOwnedTupleGo_zip (s:={s with heap:=h'}) g1 λad z2 s2=>?_
  have U:∀c o,c≠z->h'.get? c=u_ o->ad.get? c=u_ o:=λc o O e=>s2.extBut c o O e;exists .ref #[0,s],_,I1.turnedL (fp:= [z]) (h':=ad) (t':=s.toks) (λc o O e=>U c o (by simpa using O) e) (λc O=>ac c (by simp at O;simp[O])),1,⟨_,x,y,1,I.fresh,1,λzs Z=>?_,λzs Z=>?_⟩,⟨z2,U _ _ D.pz g8,[_:_:U _ _ D.rz g2],?_,?_,D⟩,λc O=>(ac c O).1
  ·rwa[I.tuple_inj Z ha]
  ·rwa[I.list_inj Z hb]
  ·erw[g3,o,e,q];exact[o:U _ _ D.iz e:q]
  ·erw[g4,o,e,q];exact[o:U _ _ D.jz e:q]
 done:=by
  intro X hP hw hK O k oq s σ H E I hf st hg;subst hP hw hK;erw[hg,xs,ha,hx];erw[I.tuple ha,its,ra,pa,za];have hl:=↑ra;erw[st,h1,h2,[u,v,h3],h4,h5,D];refine AwZ.zip_stop (A:=X.A) (I.ok.hd O) D h1 h2 h4 (show s.heap.IsTuple a its.toArray from pa) (by simp;omega) λh' kk=>[1:?_]
  exact I.turnedL (t':=s.toks) (λc o O e=>by
   simp![uG,vi,uS,V3] at O;exact kk c o O.1 O.2.2.1 O.2.2.2.1 O.2.2.2.2 e) hf
 self:=λ_ _ _ _ _ st h=>RE st.1 h
section
variable {X:Cx}
variable {n:Nat}
def Abn {a b:Nat}(ha:a<n)(O:b<n):AwZ.Apt (n+4) (n+2) (n+3) n (n+1) a b:=by
 constructor<;>exact(show _≠((_:Nat)) by omega)
def Ps {x:Nat}(h:x=n+4∨x=n+2∨x=n+3∨x=n∨x=n+1):n<=x:=by omega
nonrec def AdO (K:o0)(ta:TA):TI:=λσ H R=>ta σ H λvs H1=>∃a b xs ys,vs= [.ref a,.ref b]/\SqT K H1 a xs/\SqL K H1 b ys/\R (Itz K a b) H1
def Aas {U:oj Expr}{c:Nat}{tp p pos:Pos}{e1 O:Expr}{ta:TA}(hg:Gl X "zip")(hm:X.mg "zip"=U_)(ha:PA X [e1,O] ta)(hs:Vc [e1,O] X.env= [(V6,eval e1 X.env),(V6,eval O X.env)])(Z:Vc [O] X.env= [(V6,eval O X.env)]):
  PI X (.Tuple U c tp) (.Call (.Name "zip" p) [e1,O] [] pos) (AdO X.K ta):=by
 exists 2,R,I,h;refine Call_ (WS I hg hm boot_zip (vR (thn (ha pos oq s σ H _ I h) λus s1 zq=>?_) (by rw[hs,Z]) (by rw[Z];rfl)));erw[zq,vs,H1,I1,r1,q1]
 erw[q1,a,b,xs,ys,e,hA,hB,q];subst e;erw[Ct r1,u,u',rfl,ru,ac];cases ru;cases ac;erw[I1.tuple hA,its,ra,pa,za];erw[I1.list hB,ad,rb,pb,zb];have la:a<#[0,s1]:=by erw[id pa,o,e,_];exact uK e
 have lb:b<#[0,s1]:=by erw[id pb,o,n,e,_];exact uK e
 refine AwZ.zip_call (show s1.heap.IsTuple a its.toArray from pa) pb.isList λh2 g1 g2 g3 g4 g5 g6 g7=>?_
 refine RE (s:={s1 with heap:=h2}) g1 ?_
 exists _,[#[0,s1]+4,#[0,s1]+2,#[0,s1]+3,#[0,s1],#[0,s1]+1],_,_,H1,1,I1.kept (t':=s1.toks) g7,Iv a b _ _ _ _ _,⟨g1,g2,[_:_:g3],g4,g5,?_⟩,λx hx=>?_,q
 ·exact Abn la lb
 ·have aa:#[0,s1]<=x:=by
   simp![uG,vi,uS] at hx;exact Ps hx
  exact I1.fpOk aa (I1.hok.fresh aa)
nonrec def Ij (K:o0)(w:og)(a:o3):Prop:=(a==Vv)=V6/\∃es n,K.lookup a=u_ ⟨.type "dict",U_,.dict es n,#[]⟩/\PySem.W.KeysLit w.params es.toList
inductive Ack (K:PySem.W.Frag)(w:World)(x:V)(y:V)(H:Hp)(Q:VK):Prop
 |mk (z:_)(a:_)(r:_)(_:x= .str z)(_:y= .ref a)(_:Ij K w a)(_:PySem.W.nsIn K a z=u_ r)(_:Q (.bl (!r.isSome)) H)
def Oo:OpR X (Vj .NotIn) (Ack X.K X.w):=by
 exists 2,x,y,v,u,Q,I,U,Z,h;erw[h,z,a,r,rfl,rfl,[hs,es,n,O,hk],hn,q];erw[U,t,rfl];cases Z;have hm:=PySem.W.mapOf_K (prog:=X.prog) (w:=X.w) I.kIn O hk;refine FA (V5 X.prog X.w z t) hs hm ⟨.bl (!r.isSome),H,I.tok _,?_,q⟩;rw[PySem.W.find_K O hn]
 rfl
inductive AdF (K:PySem.W.Frag)(w:World)(x:V)(y:V)(H:Hp)(Q:VK):Prop
 |mk (z:_)(a:_)(u:_)(v:_)(_:x= .ref a)(_:y= .str z)(_:Ij K w a)(_:PySem.W.nsIn K a z=u_ (u_ u))(_:ik v u)(_:Q v H)
def Ade:IxR X (AdF X.K X.w):=by
 intro value slice oq s σ H x y v u Q I U Z h hs;erw[h,z,a,u',v',rfl,rfl,[_,es,n,O,hk],hn,hr,q];erw[Z,t,rfl];cases U;have hm:=PySem.W.mapOf_K (prog:=X.prog) (w:=X.w) I.kIn O hk;exact HS hm.typeIs slot_dict_getitem.lookup (r_ (V5 X.prog X.w z t) hm (PySem.W.find_K O hn) ⟨v',H,I.tok _,hr,q⟩) hs
end
section
variable {X:Cx}{K:o0}
def Zh (h:X.K=K):OpR X (Vj .In) (rIn K V6):=by subst h;exact QF
def Ko {es:oj Expr}{k:Nat}{t:TGs}{n:Nat}{pos:Pos}(U:X.K=K)(Z:X.calm=v_)(h:PGs X es t)
  (hn:↑(VX es X.env)=n) (O:(VX es X.env).findIdx? (·.1)=U_):PG X (.Tuple es k pos) (AcG K n t):=by subst U;exact wC Z h hn O
end
def zj {lo:Int}{n:Nat}{L:o3}{H1:Hp}{te:TE}{tl:St}{Q:VK}(C:Nat->oj V->Hp->Prop)(hn:n<=V9)(h0:C 0 [] (upd H1 L (.lst [])))
  (Z:∀i ys H,i<n->C i ys H->H L=u_ (.lst ys)->↑ys<=i->∀R:VK,(∀y H4,H4 L=u_ (.lst ys)->C (i+1) (ys++ [y]) (upd H4 L (.lst (ys++ [y])))->R y H4)->te (u_ (.int (lo+(i:Int)))::tl) H R)
  (hQ:∀ys H,C n ys H->H L=u_ (.lst ys)->Q (.ref L) H):Ed L (Itr lo n) (YY 0) sA te (U_::tl) H1 Q:=by
 exists n,λi σ ys H=>(∃x,σ=x::tl)/\C i ys H,hn,[[U_:1]:h0],?_,?_
 ·rintro i σ ys H hi ⟨⟨x,rfl⟩,O⟩ U hy;exists hi;rintro x' H' ⟨rfl,rfl⟩;dsimp![YY,sA,Ge];rw[A3 rfl];exact Z i ys H' hi O U hy _ λy H4 e c=>[e:⟨0⟩:c]
 ·rintro σ ys H ⟨_,O⟩ U;exact[uq _:hQ ys H O U]
def AaX {K:o0}{a b A:o3}{H1:Hp}{te:TE}{tl:St}{Q:VK}{xs ys:oj V}(f:Nat->D)(ha:∀H,ia H1 H->SqT K H a xs)(hb:∀H,ia H1 H->SqL K H b ys)(ac:↑xs=↑ys)(hn:↑xs<=V9)(hA:H1 A=U_)
  (Z:∀i x y H (R:VK),xs[i]? =u_ x->ys[i]? =u_ y->ia H1 H->(∀v H',ia H H'->Is H' (f i) v->R v H')->te (u_ x::u_ y::tl) H R)
  (hQ:∀H' vs,ia H1 H'->H' A=u_ (.lst vs)->L2.IsL H' ((Vh ↑xs).map f) vs->Q (.ref A) H'):Ed A (Itz K a b) (AcG K 2 (Pn (YY 0) (Pn (YY 1) Adi))) sA te (U_::U_::tl) H1 Q:=by
 exists ↑xs,λi σ us H=>(∃u v,σ=u::v::tl)/\L2.IsL H ((Vh i).map f) us/\ia H1 H,hn,[[U_:U_:1]:1:qf hA _],?_,?_
 ·rintro i σ us H hi ⟨⟨u,v,rfl⟩,hl,sm⟩ O ad;have hx:xs[i]? =u_ xs[i]:=um hi;have hy:ys[i]? =u_ (ys[i]'()):=um _
  exists ⟨xs,ys,_,_,ha H sm,hb H sm,hx,hy⟩,λx H' y=>?_;erw[y,p,x',y',rfl,hp,rfl,e1,e2];have e1:=e1 xs (ha H sm);have e2:=e2 ys (hb H sm);have s2:ia H (upd H p (.tup [x',y'])):=qf hp _;exists p,0,SqT.of qg,1,x',0,y',0,1;dsimp![sA];rw[A3 rfl];refine Z i x' y' _ _ e1 e2 (sm.trans s2) λy4 H4 U aa=>⟨U _ _ (s2 _ _ O),[_:0],?_,λb o e=>?_⟩
  ·have t:Tk H4 (upd H4 A (.lst (us++ [y4]))):=Tk.updL (U _ _ (s2 _ _ O));rw[tW,uD];exact((hl.mono (s2.trans U).tk).mono t).append (IsL.one (aa.mono t))
  ·rw[qj (qk e hA)];exact U b o (s2 b o (sm b o e))
 ·rintro σ us H ⟨_,hl,sm⟩ O;exact[[xs:ha H sm:1]:hQ H us sm O hl]
def jd (z:Str)(l:oj Str):inV (.str z) (l.map V.str)=decide (z∈l):=by
 unfold inV;rw[Tu,vJ,rA,ve];constructor
 ·rintro⟨x,U,e⟩;have O:(x==z)=true:=e;rw[beq_iff_eq] at O;exact O▸U
 ·intro h;exact⟨z,h,by show(z==z)=v_;exact beq_self_eq_true z⟩
def JV (l:oj Str):(l.map V.str).all ZQ=true:=by
 rw[Uq,Ub];intro x _
 rfl
inductive Pt where
 |s (z:Str)|n (i:Int)
nonrec def Pt.d:Pt->D
 | .s z=> .str z
 | .n i=> .int i
nonrec def Pt.t:Pt->Str
 | .s z=>z
 | .n i=>Vi i
inductive Kd where
 |box|line|words
 deriving DecidableEq
nonrec def Kd.t:Kd->Str
 | .box=>"box"
 | .line=>"line"
 | .words=>"words"
nonrec def BX:oj Str:= ["a","b","c","d","e","f","g","h"]
nonrec def FRM:oj (Str×oj Kd):= [("text",[.box,.words]),("self",[.box]),("copy",[.box,.box]),("row",[.box]),("put",[.box,.box]),("join",[.box,.box]),("first",[.box,.box]),("rest",[.box,.box]),
 ("size",[.box,.box]),("cut",[.box,.box,.box]),("glue",[.box,.box,.box]),("ask",[.box,.box]),("has",[.box,.box]),("names",[.box,.box]),("go",[.line]),("like",[.box,.box,.line]),
 ("rowed",[.box,.line]),("none",[.box,.line]),("say",[.box]),("fault",[])]
nonrec def Aar (n m:Nat):Kd->Pt->Prop
 | .box,.s z=>z∈BX
 | .line,.n i=>1<=i/\i<=n
 | .words,.s z=>↑z<=m/\z.cps.toList.all QC=v_
 |_,_=>False
nonrec def Xc (n m:Nat):oj Kd->oj Pt->Prop
 | [],[]=>True
 |k::ks,p::ps=>Aar n m k p/\Xc n m ks ps
 |_,_=>False
noncomputable abbrev Rw:=Str×oj Pt
nonrec def Jb (n m:Nat)(r:Rw):Prop:=∃ks,(r.1,ks)∈FRM/\Xc n m ks r.2
nonrec def txs (r:Rw):oj Str:=r.1::r.2.map Pt.t
nonrec def Yc (r:Rw):Str:=Vf " " (txs r)
nonrec def rowD (r:Rw):D:= .tup [.str r.1,.tup (r.2.map Pt.d)]
def JO:∀(x y:Str) (r:oj Str),(Vf " " (x::y::r)).cps.toList=x.cps.toList++32::(Vf " " (y::r)).cps.toList:=by
 intro x y r;show((x.cps++(" ":Str).cps)++(Vf " " (y::r)).cps).toList=_;rw[TL,TL,J5];simp
noncomputable abbrev Cp (z:Str):Prop:=32∉z.cps.toList
def kW:∀(l:oj Str) (z:Str) (n:Nat),(∀p∈l,Cp p)->(n=0∨Cp z)->spl (↑l+n) (Vf " " (l++ [z]))=l++ [z]
 | [],z,n,_,hz=>by
  show spl (0+n) z= [z];rw[TF];unfold spl;rcases hz with rfl|hz
  ·rw[iV];show [ofL z.cps.toList]= [z];rw[Q8]
  ·rw[wI hz];show [ofL z.cps.toList]= [z];rw[Q8]
 |p::l,z,n,hl,hz=>by
  have O:=kW l z n (λq U=>hl q (ui _ U)) hz;have Z:Cp p:=hl p uj;obtain⟨y,r,e⟩:∃y r,l++ [z]=y::r:=by cases l<;>exact[_:0]
  show spl ((↑l+1)+n) (Vf " " (p::(l++ [z])))=p::(l++ [z]);rw[e] at O⊢;unfold spl at O⊢;rw[JO,show ↑l+1+n=(↑l+n)+1 by omega,BG Z,uC,O,Q8]
def Pj (w:Str)(r:oj Str)(h:Cp w):hd (Vf " " (w::r))=w:=by
 have O:∀(p q:oj Nat),32∉p->xb 32 (p++32::q)=p:=by
  intro p
  induction p with
  |nil=>intro q _;simp[xb]
  |cons a p U=>
   intro q h;have h1:a≠32:=λe=>h (by simp[e])
   show xb 32 (a::(p++32::q))=a::p;rw[xb,A2 h1,U q λz=>h (ui _ z)]
 cases r with
 |nil=>
  show ofL (xb 32 w.cps.toList)=w;rw[zo h,Q8]
 |cons y r=>
  unfold hd;rw[JO,O _ _ h,Q8]
def Bn:∀(l:oj Str),l≠ []->(Vf " " l).length+1=(l.map (·.length)).sum+↑l
 | [],h=>A7 rfl h
 | [x],_=>by simp[Vf]
 |x::y::r,_=>by
  have O:=Bn (y::r) (by simp)
  have e:(Vf " " (x::y::r)).length=↑x+(1+(Vf " " (y::r)).length):=by
   have:=A8 g_ (JO x y r);rw[uB,uu] at this;simp![Vq] at this;show(Vf " " (x::y::r)).cps.size=_;rw[this];show x.cps.size+((Vf " " (y::r)).cps.size+1)=x.cps.size+(1+(Vf " " (y::r)).cps.size);omega
  rw[e,uC,Uv,uu];omega
def oC {i:Int}(h1:1<=i)(h2:i<=40):↑(Vi i:Str)<=2/\Cp (Vi i:Str)/\(Vi i:Str).cps.toList.all QC=true:=by
 obtain⟨k,rfl⟩:∃k:Fin 41,i=((k.val:Nat):Int):=⟨[i.toNat:()],by simp;omega⟩
 have O:∀k:Fin 41,↑(Vi ((k.val:Nat):Int):Str)<=2/\decide (Cp (Vi ((k.val:Nat):Int):Str))=v_/\(Vi ((k.val:Nat):Int):Str).cps.toList.all QC=true:=by decide+kernel
 erw[O k,a,b,c];exact[a:uw b:c]
def Ku {i:Int}(h1:1<=i)(h2:i<=40):PySem.intText? (Vi i:Str)=u_ i:=PySem.W.KIN.num_reads () ()
variable {z:Str}
def MR (h:z∈BX):↑z=1/\Cp z/\z.cps.toList.all QC=true:=by
 have O:∀z∈BX,↑z=1/\decide (Cp z)=v_/\z.cps.toList.all QC=true:=by decide+kernel
 erw[O z h,a,b,c];exact[a:uw b:c]
def Cs:∀x∈FRM,decide (Cp x.1)=v_/\x.1.cps.toList.all QC=true:=by decide+kernel
def Pq:∀x∈FRM,(decide (Kd.words∈x.2)=V6)∨x=(("text":Str),[Kd.box,Kd.words]):=by decide+kernel
def EC:∀x∈FRM,∀y∈FRM,x.1=y.1->x=y:=by decide+kernel
variable {n:Nat}
def nW {m:Nat}(hn:n<=40){k:Kd}{p:Pt}(h:Aar n m k p)(O:k≠ .words):Cp p.t:=by
 cases k<;>cases p<;>simp![Aar] at h
 ·exact(MR h).2.1
 ·exact(oC h.1 ()).2.1
 ·exact A7 rfl O
def ZJ {n m:Nat}:∀{ks:oj Kd}{ps:oj Pt},Xc n m ks ps->↑ps=↑ks
 | [],[],_=>rfl
 |_::_,_::_,h=>by rw[uu,uu,ZJ h.2]
 | [],_::_,h=>h.elim
 |_::_,[],h=>h.elim
def WO {n m:Nat}(hn:n<=40):∀{ks:oj Kd}{ps:oj Pt},Xc n m ks ps->Kd.words∉ks->∀p∈ps.map Pt.t,Cp p
 | [],[],_,_=>λp O=>by simp at O
 |_::_,_::_,h,hk=>λp O=>by
  rw[uC] at O;rcases A9.mp O with rfl|O
  ·exact nW hn h.1 λe=>hk (by simp[e])
  ·exact WO hn h.2 (λz=>hk (ui _ z)) p O
 | [],_::_,h,_=>h.elim
 |_::_,[],h,_=>h.elim
variable {r:Rw}
def Pa {m:Nat}(h:Jb n m r):hd (Yc r)=r.1:=by
 erw[h,ks,O,U];exact Pj _ _ (uw (Cs _ O).1)
variable {ks:oj Kd}
def LB {m:Nat}(hn:n<=40)(hk:(r.1,ks)∈FRM)(Z:Xc n m ks r.2):spl (if Kd.words∈ks then ↑ks else(Yc r).length+1) (Yc r)=txs r:=by
 have hw:Cp r.1:=uw (Cs _ hk).1;by_cases h:Kd.words∈ks
 ·rw[A3 h];rcases Pq _ hk with e|e
  ·simp at e;exact A7 h e
  ·have e1:ks= [.box,.words]:=A8 Prod.snd e;subst e1;erw[r,w,ps]
   match ps,Z with
   | [p,q],Z=>
    have:=kW [w,p.t] q.t 0 (λz hz=>by
     simp![uG,vi,uS] at hz;rcases hz with rfl|rfl
     ·exact hw
     ·exact nW hn Z.1 ()) (.inl rfl)
    exact this
 ·rw[A2 h];have hf:∀p∈txs r,Cp p:=λp U=>by
   rcases A9.mp U with rfl|U
   ·exact hw
   ·exact WO hn Z h p U
  rcases tR (txs r) with e|⟨l,z,e⟩
  ·simp[txs] at e
  ·rw[rp] at e;have O:=Bn (txs r) (by simp[txs])
   unfold Yc;rw[e] at hf O⊢;have hl:↑l<=(Vf " " (l++ [z])).length:=by
    rw[uB] at O;simp![uu,Hq] at O;omega
   have:=kW l z ((Vf " " (l++ [z])).length+1-↑l) (λq hq=>hf q (vq _ hq)) (.inr (hf z (by simp)))
   rw[show ↑l+((Vf " " (l++ [z])).length+1-↑l)=(Vf " " (l++ [z])).length+1 by omega] at this
   exact this
abbrev VE:oj o6:= [.type "ValueError",.type "Exception",.type "BaseException",.type "object"]
nonrec def CX1 (P:o9)(w:og):CXT:=λouter H s E e s'=>∃(ea C:o3) (a0:o6) (H':Hp) (B:o8),e= .ref ea/\s'.os=s.os/\VV s'.gens/\0<s'.toks/\Un (frs outer) [] H H' s.heap s'.heap/\HOk P w H' B/\
 rc B outer ea (.ref C) a0 s'.heap/\(∀b o,s.heap.get? b=u_ o->b∉frs outer->∃o',B.get? b=u_ o')/\E (.ref ea) (u_ C) H'
variable {h:o8}{C:o3}
def Abk {bmB:oj o6}{newId:String}(X:K.In h)(q:PySem.W.excIn K C bmB newId=v_):
  ∃bm N nm Z bs hdct sn sub ab col dd k0 k1 k2 k3 k5 mN,h.get? C=u_ (excClassObj nm Z C N bs bm hdct sn sub ab col dd k0 k1 k2 k3 k5 newId)/\h.Ns N mN/\mN "__init__"=U_/\OwnTail h bmB bm:=by
 unfold PySem.W.excIn at q;split at q
 ·rename_i dd cd sl ho
  split at q
  ·rename_i C' bm k0 k1 k2 k3 n k5 hm hs
   simp![uF,beq_iff_eq,Bool.not_eq_true'] at q;erw[q,[[[[rfl,rfl],O],ht],hok],U];erw[cd,nm,bs,aa,ns,Z,hd,sn,sub,ab,col,ac];dsimp only at hm O hok U;subst hm O;obtain⟨l⟩:=sl;simp only at hs;subst hs;exact⟨bm,ns,nm,Z,bs,hd,sn,sub,ab,col,dd,k0,k1,k2,k3,k5,_,X _ _ ho,.of_isNs (PySem.W.isNs_of_in X hok),PySem.W.nsMap_none_of_in X hok U,PySem.W.tail_of_in X ht⟩
  ·cases q
 ·cases q
def oS {h base B:o8}:∀{l:oj Env},h.FunFrames base l->(∀b∈frs l,B.get? b=U_)->h.FunFrames B l
 | [],_,_=>trivial
 |env::r,⟨hk,⟨L,o,hf,hn,ho,hd⟩,hr⟩,hB=>by
  have e:frs (env::r)=L::frs r:=by unfold frs;rw[vQ,hf]
  rw[e] at hB;exact[hk:⟨L,o,hf,hB L uj,ho,hd⟩:oS hr λb O=>hB b (ui _ O)]
nonrec def SI (E:XK)(C:o3)(ta:TE):TS:=λ_ σ H=>Nf ta Sg σ H λvs H1=>↑vs=1/\∀e,E (.ref e) (u_ C) H1
def AT {P:o9}{w:og}{K:o0}{mg:Str->om o6}{base:o8}{N:oj Str}{qual:Str}{scope:Vr}{f:o3}{U:o6}{A:oh}{outer:oj Env}{s₀:o7}{H₀:Hp}{E:XK}
  {x:Str}{C:o3}{np cpos pos:Pos}{aa:Expr}{ta:TE} (hx:PySem.W.excIn K C VE "ValueError.__new__"=v_) (hg:Gl (cxOf (CX1 P w) P w K mg base N qual scope f U A outer s₀ H₀ E) x) (hm:mg x=u_ (.ref C))
  (ha:PE (cxOf (CX1 P w) P w K mg base N qual scope f U A outer s₀ H₀ E) aa ta) (hd:(x==("__debug__":Str))=V6)
  (hs:Vc [aa] (Vd qual scope #[0,s₀] f U)= [(V6,eval aa (Vd qual scope #[0,s₀] f U))]):
  PS (cxOf (CX1 P w) P w K mg base N qual scope f U A outer s₀ H₀ E) (.Raise (u_ (.Call (.Name x np) [aa] [] cpos)) U_ pos) (SI E C ta):=by
 exists 2,D,I,h;erw[Abk I.mod.kin hx,bm,Nn,nm,q,bs,hdct,sn,sub,ab,col,dd,k0,k1,k2,k3,k5,mN,hC,hN,aq,T];have hT:bm.contains (.type "BaseException")=true:=T.hasType ()
 refine wpAny_Raise_call_subT (C:=C) (nm:=nm) (q:=q) (N:=Nn) (bs:=bs) (bm:=bm) (hdct:=hdct) (sn:=sn) (sub:=sub) (ab:=ab) (col:=col) (dd:=dd) (k0:=k0) (k1:=k1) (k2:=k2) (k3:=k3) (k5:=k5)
  (mN:=mN) F.excBase_ValueError hT (I.ok.hd rfl) (by show(Vm cpos (Vc [aa] (Vd qual scope #[0,s₀] f U))).any (·.1)=V6;rw[hs];rfl) aq (kT I hg hm [1:?_] hd)
 have au:PA (cxOf (CX1 P w) P w K mg base N qual scope f U A outer s₀ H₀ E) [aa] (Nf ta Sg):=qb ha qd hs;have hp:=au cpos oq s σ H (λvs H1=>↑vs=1/\∀e,E (.ref e) (u_ C) H1) I h;show V7 _ _ (evalArgs (.ref C) v_ (Vm cpos (Vc [aa] (Vd qual scope #[0,s₀] f U))) []) _ _ s;have aw:Vc [aa] (cxOf (CX1 P w) P w K mg base N qual scope f U A outer s₀ H₀ E).env= [(V6,eval aa (Vd qual scope #[0,s₀] f U))]:=hs;rw[aw] at hp;rw[hs];refine Uy (vD hp (λvs s₂ h₂=>?_) λ_ _ y=>y);erw[h₂,ws,H2,I2,r2,q2];erw[q2,hl,q2];have bk:=I2.bk;have ax:↑vs<=sizeLine:=by rw[<-↑r2,hl];decide
 exists 1,ax,bk _ _ hC,hN.keeps bk,T.keeps bk,λh' e ad=>?_;show V7 (Vk P w) (A.deeper (Vd qual scope #[0,s₀] f U)) (tN (Vd qual scope #[0,s₀] f U) (.ref e)) (λ_ ag=>CX1 P w outer H₀ s₀ E (.ref e) ag) (λe' ag=>CX1 P w outer H₀ s₀ E e' ag) _;have ay:(A.deeper (Vd qual scope #[0,s₀] f U)).frames=u_ (Vd qual scope #[0,s₀] f U::outer):=I2.ok.frames;have ak:s₂.heap.FunFrames base (Vd qual scope #[0,s₀] f U::outer):=I2.stack;have ah:∀b∈frs (Vd qual scope #[0,s₀] f U::outer),H2 b=none:=I2.stkFree;have al:frs (Vd qual scope #[0,s₀] f U::outer)=#[0,s₀]::frs outer:=rfl;have ap:#[0,s₀]<=#[0,s₀]:=I2.ok.above;have O:Un (frs outer) [] H₀ H2 s₀.heap s₂.heap:=I2.base;refine wpAny_leaves_madeW (base:=TI.gone s₂.heap (frs (Vd qual scope #[0,s₀] f U::outer))) (h:=s₂.heap) (L:=#[0,s₀]) ay rfl (λb o e=>(TI.gone_some e).2) (oS ak λb Z=>TI.gone_none Z) ad λam t af aB _ aA=>?_;have ae:∀b o,b∉frs (Vd qual scope #[0,s₀] f U::outer)->s₂.heap.get? b=u_ o->am.get? b=u_ o:=λb o Z e=>af.1 b o (by rwa[TI.gone_get Z])
 have slots:∀b o,s₂.heap.get? b=u_ o->(∀vs,o.data≠ .fields vs)->∃sl,am.get? b=u_ {o with slots:=sl}:=λb o e hn=>aA b o (ad.keeps b o e) hn
 have nd:∀b∈frs outer,∀o,s₂.heap.get? b=u_ o->∀vs,o.data≠ .fields vs:=λb Z o e=>by
  obtain⟨_,o',e',hn⟩:=ak.mem (show b∈(Vd qual scope #[0,s₀] f U::outer).filterMap (·.frame) from by rw[show(Vd qual scope #[0,s₀] f U::outer).filterMap (·.frame)=frs (Vd qual scope #[0,s₀] f U::outer) from rfl,al];exact ui _ Z)
  rw[e] at e';cases e';exact hn
 have ac:∀b o,s₀.heap.get? b=u_ o->b∉frs outer->b∉frs (Vd qual scope #[0,s₀] f U::outer):=λb o e Z hm=>by
  rw[al] at hm;rcases A9.mp hm with rfl|hm
  ·exact A7 (uK e) (vI _)
  ·exact Z hm
 exists e,C,.ref t,H2,0,I2.os,I2.bare,(by first|exact I2.tk|exact Vn I2.tk (V1 _ _)|((try dsimp only);first|assumption|exact Inv.tk (by assumption)|exact tH _|exact Vn (Inv.tk (by assumption)) (by assumption)|exact Nat.add_pos_left (Inv.tk (by assumption)) _|omega)),⟨?_,?_,O.free,?_,O.tups,O.frzs,O.tbls⟩,?_,af,?_,q2 e
 ·intro b o e1 hn Z hx;exact ae b o (ac b o e1 Z) (O.keep b o e1 hn Z hx)
 ·intro b o e1 hn Z hx;erw[O.slot b o e1 hn Z hx,sl,e2];erw[slots b _ e2 (nd b Z _ e2),ao,e3];exact[ao:e3]
 ·intro b o e1 hx;erw[O.there b o e1 hx,o',e2];by_cases Z:b∈frs outer
  ·erw[slots b _ e2 (nd b Z _ e2),ao,e3];exact[_:e3]
  ·exact[o':ae b o' (ac b o e1 Z) e2]
 ·intro b u Z;refine(I2.hok b u Z).stay (λc v hc q=>?_) (λ_ q=>q) λ_ _ q=>q;rw[TI.gone_get]
  ·exact q
  ·intro hm;have hn:=ah c hm;rcases hc with z|z
   ·rw[z,Z] at hn;cases hn
   ·rw[z] at hn;cases hn
 ·intro b o e1 Z;obtain⟨o',e2⟩:=O.there b o e1 (by simp)
  exact⟨o',by rwa[TI.gone_get (ac b o e1 Z)]⟩
def Fun.okX {P:o9}{w:og}{K:o0}{mg:Str->om o6}{base:o8}{x qual:Str}{st:Stmt}{f:o3}{fd:V8}{N ps:oj Str}{k:Nat}{sp:Sp}(F:Fun K x qual st f fd)(S:qw N ps (qi st))(len:∀vs H Q E,sp vs H Q E->↑vs=↑ps)
  (O:∀(cdv:o6) (A:oh) (outer:oj Env) (s:o7) (H:Hp) (vs:oj V) (Q:VK) (E:XK),mr k (A.deeper (Vd qual (qi st) #[0,s] f cdv))->sp vs H Q E->
   ∃t,PSs (cxOf (CX1 P w) P w K mg base N qual (qi st) f cdv A outer s H E) (yP st) t/\t {nx:=λ_ H'=>Q .non H',rt:=Q} (KF N vs) H):FnOk P w K mg base (CX1 P w) (k+1) f fd ps sp:=by
 erw[F.ex,oc,od,kV,doc,pm,an,cdv,ct,osl,rfl,lk,U];exact Abb lk U S len λA outer s H vs Q E hr Z=>O cdv A outer s H vs Q E hr Z
end L2
namespace HT
open PySem PyProof.Rows
section
variable {prog:o9}{w:og}{A:oh}{E:o6->o7->Prop}{s:o7}
def getItem_tuple_all {t sl:o3}{items:Array o6}{vl vu:o6}{lo hi:om Int}{Q:o6->o7->Prop}(O:GH s.heap t items)(hs:s.heap.IsSliceOf sl vl vu .none)(pl:VQ vl lo)(pu:VQ vu hi)
  (hw:sIx items.size 0 lo=0/\sIx items.size items.size hi=items.size) (h:Q (.ref t) s):V7 #[w,w] A (VO (.ref t) (.ref sl)) Q E s:=by
 erw[id hs,os,Z,aa,ad];have ac:s.TypeIs (.ref sl) "slice":=[os:Z:aa];unfold VO
 try with_reducible refine VD ?_
 first|refine A4 (Vb ?_)|skip
 refine A4 (TW O.typeIs () ?_)
 refine A4 (vC (name:=GJ "__getitem__") O.typeIs vG
  (vT vG O.typeIs RP ?_ (re _ _)))
 show V7 _ _ (Fs (.ref t)>>=_) _ _ s;refine A4 (FQ O ?_);refine A4 (Gf ac ?_);rw[A3 ()]
 refine A4 (jZ hs pl pu ?_);have U:((((sIx items.size 0 lo:Nat):Int)==0&&(1:Int)==1&&(sIx items.size items.size hi-sIx items.size 0 lo)==items.size)=v_):=by
  rw[hw.1,hw.2];simp
 show V7 _ _ (if(((sIx items.size 0 lo:Nat):Int)==0&&(1:Int)==1&&(sIx items.size items.size hi-sIx items.size 0 lo)==items.size)=v_ then _ else _) _ _ s
 rw[A3 U];unfold pR;refine A4 (A4 (Gf O.typeIs (Vb ?_)));rw[A3 ()]
 exact A4 (Uu (Vb [0:Vb h]))
end
end HT
namespace L2
open PySem PySem.Spec PyProof.Rows
section
variable {X:Cx}
inductive Ach (K:PySem.W.Frag)(x:V)(lo:Option Int)(hi:Option Int)(H:Hp)(Q:VK):Prop
 |mk (a:_)(xs:_)(_:x= .ref a)(_:SqT K H a xs)(_:(HT.sIx ↑xs 0 lo=0/\HT.sIx ↑xs ↑xs hi=↑xs->Q (.ref a) H))(_:(¬(HT.sIx ↑xs 0 lo=0/\HT.sIx ↑xs ↑xs hi=↑xs)->∀p,H p=U_->Q (.ref p) (upd H p (.tup (ni xs lo hi)))))
def wG:SlR X (Ach X.K):=by
 exists 2,x,v,vl,vu,lo,hi,sl,Q,I,Z,hs,pl,pu,h;erw[h,a,xs,rfl,hx,q1,q2];by_cases U:HT.sIx ↑xs 0 lo=0/\HT.sIx ↑xs ↑xs hi=↑xs
 ·cases Z;erw[I.tuple hx,its,r,ht,hz];have O:its.toArray.size=↑xs:=by rw[uz];exact r.length.symm
  exists "tuple",_,PyProof.Rows.slot_tuple_getitem.lookup,ht.typeIs;exact HT.getItem_tuple_all ht hs pl pu (by rwa[O]) ⟨.ref a,H,I,1,q1 U⟩
 ·exact Aab oq s σ H (.ref a) v vl vu lo hi sl Q I Z hs pl pu ⟨a,xs,1,hx,U,q2 U⟩
end
nonrec def Ya (n:Nat):Kd->Str->om Pt
 | .words,z=>u_ (.s z)
 | .box,z=>if z∈BX then u_ (.s z) else U_
 | .line,z=>((Vh n).find? λi:Nat=>decide ((Vi (1+(i:Int)):Str)=z)).map λi:Nat=> .n (1+(i:Int))
nonrec def Yh (n:Nat):oj Kd->oj Str->om (oj Pt)
 | [],_=>u_ []
 |k::ks,z::zs=>match Ya n k z,Yh n ks zs with
  |some p,u_ ps=>u_ (p::ps)
  |_,_=>U_
 |_::_,[]=>U_
nonrec def xl (w:Str):om (oj Kd):=(FRM.find? λx=>decide (x.1=w)).map (·.2)
nonrec def pcs (ks:oj Kd)(z:Str):oj Str:=spl (if Kd.words∈ks then ↑ks else ↑z+1) z
nonrec def wM (n:Nat)(z:Str):om Rw:=
 if QB z=v_ then match xl (hd z) with
  |none=>U_
  |some ks=>if(pcs ks z).length=1+↑ks then(Yh n ks ((pcs ks z).drop 1)).map λl=>(hd z,l) else U_
 else U_
variable {ks:oj Kd}
def Ze {w:Str}(h:xl w=u_ ks):(w,ks)∈FRM:=by
 unfold xl at h;cases e:FRM.find? λx=>decide (x.1=w) with
 |none=>rw[e] at h;cases h
 |some x=>
  rw[e] at h;have O:=HN e;have hm:=vZ e;cases h;have:x.1=w:=uw O;subst this;exact hm
def We {w:Str}(h:xl w=U_):∀x∈FRM,x.1≠w:=by
 unfold xl at h;rw[tX,Ul] at h;intro x O e;exact h x O (A6 e)
variable {n:Nat}{z:Str}
def Ds {m:Nat}{k:Kd}{p:Pt}(U:↑z<=m)(ha:z.cps.toList.all QC=v_)(h:Ya n k z=u_ p):Aar n m k p/\p.t=z:=by
 cases k with
 |words=>cases h;exact[[U:ha]:1]
 |box=>
  simp![Ya] at h;by_cases O:z∈BX
  ·rw[A3 O] at h;cases h;exact[O:1]
  ·rw[A2 O] at h;cases h
 |line=>
  simp![Ya] at h;cases e:(Vh n).find? λi:Nat=>decide ((Vi (1+(i:Int)):Str)=z) with
  |none=>rw[e] at h;cases h
  |some i=>
   rw[e] at h;cases h;have h1:=HN e;have h2:=List.mem_range.mp (vZ e);exact[[():()]:uw h1]
def WC {n m:Nat}:∀{ks:oj Kd}{zs:oj Str}{ps:oj Pt},(∀z∈zs,↑z<=m/\z.cps.toList.all QC=v_)->↑zs=↑ks->Yh n ks zs=u_ ps->Xc n m ks ps/\ps.map Pt.t=zs
 | [],[],ps,_,_,h=>by cases h;exact[trivial:1]
 | [],_::_,_,_,hl,_=>by simp at hl
 |_::_,[],_,_,hl,_=>by simp at hl
 |k::ks,z::zs,ps,hz,hl,h=>by
  unfold Yh at h;split at h
  ·rename_i p qs h1 h2
   cases h;erw[Ds (hz z uj).1 (hz z uj).2 h1,O,U];obtain⟨b1,b2⟩:=WC (λy Z=>hz y (ui _ Z)) (by simpa using hl) h2
   exact⟨[O:b1],by rw[uC,U,b2]⟩
  ·cases h
nonrec def k8:oj (oj Nat)->oj Nat
 | []=> []
 | [x]=>x
 |x::y::r=>x++32::k8 (y::r)
def Cg (x:oj Nat){q:oj (oj Nat)}(O:q≠ []):k8 (x::q)=x++32::k8 q:=by
 cases q with
 |nil=>exact A7 rfl O
 |cons y r=>rfl
def KG:∀(n:Nat) (L:oj Nat),k8 (iV 32 n L)=L
 |0,L=>by simp[iV,k8]
 |n+1,[]=>by simp[iV,k8]
 |n+1,a::r=>by
  by_cases h:a=32
  ·have O:=KG n r;erw[Jl 32 n r,p,q,e];rw[iV,A3 h,Cg [] (by rw[e];simp),O,h]
   rfl
  ·have O:=KG (n+1) r;erw[Jl 32 (n+1) r,p,q,e];rw[e] at O;simp![iV,A2 h,e];cases q with
   |nil=>simp![k8] at O⊢;rw[O]
   |cons y t=>
    simp![k8] at O⊢;rw[U9,O]
def Bm:∀l:oj (oj Nat),(Vf " " (l.map ofL)).cps.toList=k8 l
 | []=>rfl
 | [x]=>by show(ofL x).cps.toList=x;unfold ofL;simp
 |x::y::r=>by
  have O:=Bm (y::r);show(Vf " " (ofL x::ofL y::r.map ofL)).cps.toList=_;rw[JO];have e:(ofL x).cps.toList=x:=by unfold ofL;simp
  rw[e];show x++32::(Vf " " ((y::r).map ofL)).cps.toList=_;rw[O]
  rfl
def ID (n:Nat)(z:Str):Vf " " (spl n z)=z:=by
 unfold spl;have h:=Bm (iV 32 n z.cps.toList);rw[KG] at h;rw[<-Q8 (Vf " " ((iV 32 n z.cps.toList).map ofL)),h,Q8]
def BF:∀(n:Nat) (L:oj Nat),∃q,iV 32 (n+1) L=xb 32 L::q
 |n,[]=>⟨[],by simp[iV,xb]⟩
 |n,a::r=>by
  by_cases h:a=32
  ·exact⟨iV 32 n r,by simp[iV,xb,h]⟩
  ·erw[BF n r,q,e];exact⟨q,by simp![iV,A2 h,e,xb]⟩
def IC (n:Nat)(z:Str):∃q,spl (n+1) z=hd z::q:=by
 erw[BF n z.cps.toList,q,e];exact⟨q.map ofL,by unfold spl hd;rw[e];rfl⟩
def An:∀(n:Nat) (L:oj Nat),∀p∈iV 32 n L,↑p<=↑L/\∀c∈p,c∈L
 |0,L=>λp O=>by
  simp[iV] at O;subst O;exact[uq _:λc U=>U]
 |n+1,[]=>λp O=>by
  simp[iV] at O;subst O;exact[uq _:λc U=>U]
 |n+1,a::r=>λp O=>by
  by_cases h:a=32
  ·rw[iV,A3 h] at O;rcases A9.mp O with rfl|O
   ·exact⟨uP _,λc U=>by simp at U⟩
   ·erw[An n r p O,h1,h2];exact⟨by simp;omega,λc U=>ui _ (h2 c U)⟩
  ·erw[Jl 32 (n+1) r,p0,q,e];have Z:=An (n+1) r;rw[e] at Z;simp![iV,A2 h,e] at O;rcases A9.mp O with rfl|O
   ·erw[Z p0 uj,h1,h2];refine⟨by simp;omega,λc U=>?_⟩
    rcases A9.mp U with rfl|U
    ·exact uj
    ·exact ui _ (h2 c U)
   ·erw[Z p (ui _ O),h1,h2];exact⟨by simp;omega,λc U=>ui _ (h2 c U)⟩
def Md {m:Nat}(hz:↑z<=m)(ha:z.cps.toList.all QC=v_):∀p∈spl n z,↑p<=m/\p.cps.toList.all QC=true:=by
 intro p O;erw[Ac.mp O,q,U,rfl];erw[An n z.cps.toList q U,h1,h2];have e:(ofL q).cps.toList=q:=by unfold ofL;simp
 exists ?_,?_
 ·have:↑(ofL q)=↑q:=by unfold ofL VU;simp
  rw[this];have:↑z.cps.toList=↑z:=by simp[VU]
  omega
 ·rw[e,Ub];intro c Z;exact List.all_eq_true.mp ha c (h2 c Z)
variable {r:Rw}
def AJ (h:wM n z=u_ r):Jb n 300 r/\Yc r=z:=by
 unfold wM at h;split at h
 ·rename_i ht
  have O:=ht;unfold QB at O;rw[uF,ve] at O;split at h
  ·cases h
  ·rename_i ks hk
   split at h
   ·rename_i hl
    cases e:Yh n ks ((pcs ks z).drop 1) with
    |none=>rw[e] at h;cases h
    |some l=>
     rw[e] at h;cases h;have hm:=Ze hk;have U:∀p∈(pcs ks z).drop 1,↑p<=300/\p.cps.toList.all QC=true:=λp Z=>Md O.1 O.2 p (U1 Z);obtain⟨a1,a2⟩:=WC U (by rw[vN,hl];omega) e
     exists [ks:hm:a1];have aa:∃j,(if Kd.words∈ks then ↑ks else ↑z+1)=j+1:=by
      split
      ·rename_i hw
       exact⟨↑ks-1,by have:=List.length_pos_iff.mpr (λe=>by rw[e] at hw;simp at hw:ks≠ []);omega⟩
      ·exact[↑z:1]
     erw[aa,j,hj];erw[IC j z,q,hq];have Z:pcs ks z=hd z::q:=by unfold pcs;rwa[hj]
     have hb:Vf " " (pcs ks z)=z:=ID _ z;show Vf " " (hd z::l.map Pt.t)=z;rw[a2];rw[Z] at hb⊢;exact hb
   ·cases h
 ·cases h
section
variable {X:Cx}{oq:oj (o3×Obj)}{σ:St}{H:Hp}{s:o7}
def nu:∀{cs:oj o3}{its:oj o6},im (cs.map V.ref) its->its=cs.map Ve
 | [],_,h=>by cases h;rfl
 |c::cs,_,h=>by
  cases h with
  |cons O U=>
   rw[nu U,show _=Ve c from O]
   rfl
end
section
variable {X:Cx}
def JT:∀{ls:oj Str}{its:oj o6},im (ls.map V.str) its->Gy its ls
 | [],_,h=>by cases h;exact .nil
 |z::ls,_,h=>by
  cases h with
  |cons O U=>
   erw[O,t,e];rw[e];exact .cons z t (JT U)
def Zq:∀{ls:oj Str}{its:oj o6},Gy its ls->im (ls.map V.str) its
 |_,_,.nil=> .nil
 |_,_,.cons x t h=> .cons [t:1] (Zq h)
def kX:∀{xs:oj V}{us:oj o6},↑xs=↑us->(∀(j:Nat) (x:V) (v:o6),xs[j]? =u_ x->us[j]? =u_ v->ik x v)->im xs us
 | [],[],_,_=> .nil
 |x::xs,u::us,hl,h=> .cons (h 0 x u rfl rfl) (kX (by simpa using hl) λj y v h1 h2=>h (j+1) y v (by simpa using h1) (by simpa using h2))
 | [],_::_,hl,_=>by simp at hl
 |_::_,[],hl,_=>by simp at hl
def oW (hc:X.calm=v_):Yt X (.builtin "sorted") (λxs H Q=>∃(d:o3) (kvs:oj (Key×V)) (ls:oj Str),xs= [.ref d]/\H d=u_ (.dK kvs)/\kvs.map (·.1)=ls.map Va/\↑ls<64/\∀(Z:oj Str) (q:o3),Z.Perm ls->sortedS Z=v_->H q=U_->Q (.ref q) (upd H q (.lst (Z.map V.str)))):=by
 exists 2,xs,us,Q,I,r,h;erw[h,d,kvs,ls,rfl,hd,hk,am,q];erw[Jw r,u,rfl,ru];cases ru;erw[Pw I.hok hd,hz,lo,vs,ae,dd];erw[id dd,o,es,ep,ho];have af:s.heap.DictAt (Qu X.prog X.w) d vs ep:=[o:es:ho];have aa:↑vs=↑ls:=by
  have h1:=A8 g_ hk;rw[ud,ud] at h1;rw[<-↑ae,h1]
 refine uZ (n:=1) I.tk ?_;refine PySem.Calls.call_function_entry kind_sorted plain_sorted entry_sorted (args_sorted1 _) ?_;unfold G6.«sorted»;refine A4 (m:=checkCount "sorted" 1 1 _) (Vb ?_);refine A4 (PySem.W.kdu_collect (A:=X.A.in1) (PySem.W.kdl_dict lo) (I.ok.hd hc) af (by rw[aa,uI];omega) λh' tk U ag O=>?_)
 have hS:Gy U.toList ls:=by
  refine JT (kX (by rw[ud,Vq];exact aa.symm.trans O.1.symm) λj x v hx hv=>?_)
  rw[uM] at hx;cases ac:ls[j]? with
  |none=>rw[ac] at hx;cases hx
  |some z=>
   rw[ac] at hx;cases hx;obtain⟨k,y,e1,e2⟩:=O.2 j v (by rwa[<-Up])
   have e3:(kvs.map (·.1))[j]? =u_ k:=by
    rw[ae.keys,uM,e1]
    rfl
   rw[hk,uM,ac] at e3;cases e3;rcases Qz (show oH (Va z) v=v_ from e2) with⟨i,t,e4,e5⟩|⟨z',t,e4,e5⟩
   ·cases e4
   ·cases e4;exact[t:e5]
 have ah:↑U.toList=↑ls:=by rw[Vq,O.1,aa]
 refine A4 (tm ?_ (by rw[ah,uI];omega))
 have ad:(h'.push (seqObj "list" U.toList.toArray 0)).get? h'.objs.size=u_ (seqObj "list" U.toList.toArray 0):=uJ _ rfl;refine A4 (VD (vT slot_list_sort [_:ad:1] entry_list_sort (list_sort_treeK strKind_oneLt ad hS.keysOf (λv₁ v₂ rest e=>keyKind_strs (by rwa[<-e])) () λak a1 a2=>[0:?_]) (args_list_sort _)))
 refine Vb [0:?_];erw[sorted_out_str hS a1 a2,Z,b1,b2,b3];erw[sortedHeap_at (out:=(arrOf ak).map (·.2)) ad,e,he];have al:↑Z=↑ls:=b2.length_eq;intro htk;have I':Inv X oq σ H {s with heap:=h',toks:=tk}:=I.kept ag
 exists .ref h'.objs.size,_,I'.laid (t':=tk) (o:= .lst (Z.map V.str)) (λb u w=>?_) (uq _) ⟨?_,_,e,Zq b1,he⟩,1,q Z _ b2 b3 (I'.hok.fresh (uq _))
 ·have hb:=uK w;rw[sortedHeap_old (uR hb) (by rw[size_push'];exact tF hb)]
  exact uh _ w
 ·rw[ud,al,uI];omega
nonrec def Itd (d:o3)(o:Obj):It:=
 ⟨λi H=>∃kvs,H d=u_ (.frz o (.dK kvs))/\i<↑kvs,λi H x H'=>H'=H/\∀kvs,H d=u_ (.frz o (.dK kvs))->(kvs.map λp=>kV p.1)[i]? =u_ x,λi H=>∃kvs,H d=u_ (.frz o (.dK kvs))/\↑kvs<=i⟩
variable {w:og}
def Dt {P:o9}{es:oj GO}{kvs:oj (Key×o6)}(h:Pairs (Qu P w) es kvs):↑es=↑kvs:=↑h
variable {H:Hp}{h:o8}{o:Obj}{es:Array GO}{ep:Nat}
def EA {P:o9}{d:o3}{kvs:oj (Key×V)}(ok:HOk P w H h)(e:H d=u_ (.frz o (.dK kvs)))(hd:o.data= .dict es ep):
  (d==Vv)=V6/\∃vs,KV kvs vs/\h.DictAt (Qu P w) d vs ep/\↑vs=es.size/\↑kvs<=sizeLine:=by
 obtain⟨U,hz,lo,vs,r,o',es',aa,O,c1,Z,c3,c4,c5⟩:=(show yf P w H h d (.frz o (.dK kvs)) from ok d _ e)
 rw[U] at O;cases O;rw[hd] at Z;cases Z;exact⟨lo,vs,r,⟨o,es,U,c1,hd,c3,c4,c5⟩,by rw[<-Vq];exact(Dt c4).symm,hz⟩
def MB {k:Key}{v:o6}(h:oH k v=v_):ik (kV k) v:=by
 rcases Qz h with⟨i,t,rfl,rfl⟩|⟨z,t,rfl,rfl⟩
 ·exact[t:1]
 ·exact[t:1]
variable {K:o0}{tg:Expr}
def Cy {P:o9}(d it:o3)(hd:o.data= .dict es ep):PL P w K tg (Itd d o) [it] it (λi h=>h.IsKeyIter it d i es.size ep) where
 mem:=by simp
 obj:=λi h st b O=>by
  have e:b=it:=by simpa using O
  subst e;erw[st,o,e,c,d];exact⟨o,e,λv z=>by rw[d] at z;cases z⟩
 keep:=λi h h' st k=>by
  erw[st,o,e,c,dd];exact⟨o,k it (by simp) o e,c,dd⟩
 item:=by
  intro X hP hw hK hc i oq s σ H E I hf st hg;subst hP hw hK;erw[hg,kvs,hq,hx];erw[EA I.hok hq hd,lo,vs,r,U,hl,_];have ad:=↑r;obtain⟨f0,f1,f2,f3,f4,f5⟩:=hf it (by simp)
  obtain⟨⟨k,v⟩,Z⟩:∃p,vs[i]? =u_ p:=[_:um ()]
  refine wpAny_pyNext_dict_item (by rwa[hl]) U Z λae h' hk aa sb=>?_
  have I1:Inv X oq σ H {s with heap:=h'}:=I.turned (t':=s.toks) (λb o O e=>(sb.2 b O).trans e) f0 f1 f3 f4 f5
  erw[id aa,oi,e,c,di];refine⟨ae,1,Ex (s:={s with heap:=h'}) e c di () ⟨kV k,H,I1,MB hk,[1:λaf ac=>?_],by rw[<-hl];exact aa,λb O=>(hf b O).1⟩⟩
  rw[hq] at ac;cases ac;have e3:(kvs.map (·.1))[i]? =u_ k:=by
   rw[r.keys,uM,Z]
   rfl
  rw[uM] at e3⊢;cases h4:kvs[i]? with
  |none=>rw[h4] at e3;cases e3
  |some p=>
   rw[h4] at e3;cases e3
   rfl
 done:=by
  intro X hP hw hK hc i oq s σ H E I hf st hg;subst hP hw hK;erw[hg,kvs,hq,hx];erw[EA I.hok hq hd,lo,vs,r,U,hl,_];have ad:=↑r;obtain⟨f0,f1,f2,f3,f4,f5⟩:=hf it (by simp)
  exact wpAny_pyNext_dict_end (I.ok.hd hc) (by rwa[hl]) U (FK ()) λh' eb=>[1:I.turned (t':=s.toks) (λb o O e=>eb b o O e) f0 f1 f3 f4 f5]
 self:=λ_ _ _ _ _ st h=>wpAny_pyIter_keyiter st h
nonrec def AcD (tl:TE):TI:=λσ H R=>tl σ H λx H1=>∃d o kvs,x= .ref d/\H1 d=u_ (.frz o (.dK kvs))/\R (Itd d o) H1
def Om {tg l:Expr}{tl:TE}(Z:PE X l tl):PI X tg l (AcD tl):=by
 exists 2,R,I,h;refine thn (Z oq s σ H _ I h) λv s1 zq=>?_;erw[zq,x,H1,O,r1,q1];erw[q1,d,o,kvs,rfl,hq,q];cases r1;obtain⟨ho,_,lo,vs,r,o',es,ep,U,c1,c2,_⟩:=(show yf X.prog X.w H1 s1.heap d (.frz o (.dK kvs)) from O.hok d _ hq)
 rw[ho] at U;cases U;erw[EA O.hok hq c2,lo,vs,r,aa,Z,_];refine wpAny_pyIter_dict lo aa ?_;refine⟨#[0,s1],[#[0,s1]],_,_,H1,1,O.kept (t':=s1.toks) λb o e=>uh _ e,Cy d _ c2,⟨_,uJ _ rfl,1,by rw[Z];rfl⟩,λb hb=>?_,q⟩
 have e:b=#[0,s1]:=by simpa using hb
 subst e;exact O.fpOk (uq _) (O.hok.fresh (uq _))
end
end L2
namespace PySem.AwK
open PySem Builtin Builtin.ObjectAttr
def O9:Hz (.type "list") "keys"=pure none:=by rw[rT,FR];kernel_rfl
section
variable {prog:o9}{w:og}{A:oh}{E:o6->o7->Prop}{s:o7}
def KK:isSubtype (.type "AttributeError") (.type "AttributeError")=pure true:=by rw[isSubtype_type];kernel_rfl
def B7 {α:Type}{o:o6}{name O:Str}{Q:α->o7->Prop}(hh:A.handled=U_)(hm:↑O<=V9)
  (hq:∀h' ac e,(∀b ob,s.heap.get? b=u_ ob->h'.get? b=u_ ob)->(∃oe,h'.get? e=u_ oe/\oe.cls= .type "AttributeError")->E (.ref e) {s with heap:=h',toks:=ac}):
  V7 #[w,w] A (Ri o name O:Sem α) Q E s:=by
 unfold Ri;refine A4 (wpAny_mkStr (A4 ?_) hm);unfold newExc newTuple;refine A4 (vo ?_ (by show(1:Nat)<=V9;rw[uI];decide))
 refine A4 (m:=tD _ _) (HA (a:=VF) (by kernel_rfl) ?_)
 obtain⟨h1,aa⟩:∃h1,h1=s.heap.push {cls:= .type "tuple",data:= .seq #[Vu O s.toks]}:=⟨0⟩;have k1:∀b ob,s.heap.get? b=u_ ob->h1.get? b=u_ ob:=λb ob e=>by rw[aa];exact uh _ e
 show V7 #[w,w] A (newObj (.type "AttributeError") (.fields #[.ref #[0,s],.none,.none,.none,.bool V6,.none,VS,VS])) _ E {s with heap:=s.heap.push {cls:= .type "tuple",data:= .seq #[Vu O s.toks]},toks:=s.toks+1}
 rw[<-aa];refine vo ?_ (by unfold sizeOk;first|trivial|(rw[uI];simp)|decide)
 obtain⟨h2,U⟩:∃h2,h2=h1.push {cls:= .type "AttributeError",data:= .fields #[.ref #[0,s],.none,.none,.none,.bool V6,.none,VS,VS]}:=⟨0⟩;have k2:∀b ob,h1.get? b=u_ ob->h2.get? b=u_ ob:=λb ob e=>by rw[U];exact uh _ e
 have Z:h2.get? h1.objs.size=u_ {cls:= .type "AttributeError",data:= .fields #[.ref #[0,s],.none,.none,.none,.bool V6,.none,VS,VS]}:=by rw[U];exact uJ _ rfl
 show V7 #[w,w] A (do let x<-mkText name;noteAttr (.ref h1.objs.size) o x;raiseNew (.ref h1.objs.size)) Q E {s with heap:=h1.push {cls:= .type "AttributeError",data:= .fields #[.ref #[0,s],.none,.none,.none,.bool V6,.none,VS,VS]},toks:=s.toks+1}
 rw[<-U];have ne:∀b ob,h1.get? b=u_ ob->b≠h1.objs.size:=λb ob e=>uR (uK e);generalize h1.objs.size=e at Z ne⊢;refine A4 (TQ (A4 ?_));have hT:∀g d t os,(⟨h2,g,d,t,os⟩:o7).TypeIs (.ref e) "AttributeError":=λ_ _ _ _=>[_:Z:1];unfold noteAttr lacksNameAndObj;refine A4 (A4 (V0 (hT _ _ _ _) KK ?_));simp![Bool.not_true,UM,if_false];refine A4 (HH Z ?_);dsimp only;rw[A2 (by simp[VS,V_]),A2 (by simp[VS,doubtfulMember,V_])]
 refine Vb ?_;rw[A3 rfl];refine A4 (Uu (A4 (Gf (hT _ _ _ _) ?_)));show V7 #[w,w] A (layMembers e 6 #[Vu name (s.toks+1),o]) _ E _;unfold layMembers;refine A4 (HH Z ?_);dsimp only;refine wpAny_update Z ?_;have e3:=Hy (Rv λvs=>vs.extract 0 6++ #[Vu name (s.toks+1),o]) Z rfl;have k3:∀b ob,b≠e->h2.get? b=u_ ob->(h2.update e (Rv λvs=>vs.extract 0 6++ #[Vu name (s.toks+1),o])).get? b=u_ ob:=λb ob hb q=>(tu _ _ (Ux hb)).trans q;exact wpAny_raiseNew_none hh (hq _ _ e (λb ob q=>k3 b ob (ne b ob (k1 b ob q)) (k2 b ob (k1 b ob q))) [_:e3:1])
end
section
variable {prog:o9}{w:og}{A:oh}{E:o6->o7->Prop}{h:o8}{g:Array Hj}{d:Drawn}{t:Nat}{os:OsState}{a:o3}{its:Array o6}{n:Nat}{sl:Array (om o6)}
def Lx {tk:Tok}{Q:Fin->o7->Prop}(Z:A.handled=U_)(hx:h.get? a=u_ {cls:= .type "list",dict:=U_,data:= .seq its n,slots:=sl})
  (hq:∀h' O e,(∀b ob,h.get? b=u_ ob->h'.get? b=u_ ob)->(∃U,h'.get? e=u_ U/\U.cls= .type "AttributeError")->E (.ref e) ⟨h',g,d,O,os⟩):
  V7 #[w,w] A (G6.«object.__getattribute__» [[.ref a,.str "keys" tk]:[]]) Q E ⟨h,g,d,t,os⟩:=by
 have hT:(⟨h,g,d,t,os⟩:o7).TypeIs (.ref a) "list":=[_:hx:1];have f4:=O9
 repeat (any_goals (first|assumption|wp_step))
 exact B7 Z (by rw[uI];decide+kernel) hq
def O5 {tk:Tok}{R:G7->o7->Prop}(hh:A.handled=U_)(U:h.get? a=u_ {cls:= .type "list",dict:=U_,data:= .seq its n,slots:=sl})
  (hq:∀h' O e,(∀b ob,h.get? b=u_ ob->h'.get? b=u_ ob)->(∃Z,h'.get? e=u_ Z/\Z.cls= .type "AttributeError")->R (.error (.ref e)) ⟨h',g,d,O,os⟩):
  VA #[w,w] A (.call (.builtin "list.__getattribute__") [[.ref a,.str "keys" tk]:[]]) R ⟨h,g,d,t,os⟩:=
 Ru F.slot_list_getattribute.plain F.entry_list_ga (F.slot_list_getattribute.check _ _ _ _ _ _ _ _ (show(⟨h,g,d,t,os⟩:o7).TypeIs (.ref a) "list" from[_:U:1]) (F.args_list_getattribute_2 _ _) (Lx hh U hq))
def O4 {Q:om o6->o7->Prop}(hh:A.handled=U_)(U:h.get? a=u_ {cls:= .type "list",dict:=U_,data:= .seq its n,slots:=sl})
  (hq:∀h' O,(∀b ob,h.get? b=u_ ob->h'.get? b=u_ ob)->Q U_ ⟨h',g,d,O,os⟩):V7 #[w,w] A (getAttr? (.ref a) "keys") Q E ⟨h,g,d,t,os⟩:=by
 have hT:∀t,(⟨h,g,d,t,os⟩:o7).TypeIs (.ref a) "list":=λt=>[_:U:1];unfold getAttr? getAttrBy?;refine A4 (TQ (A4 (Hn ?_)));unfold getAttrBy;refine VD (A4 (Gf (hT _) ?_));rw[F.slot_list_getattribute.lookup];refine A4 (Vb ?_);show V7 #[w,w] A (rW (.ref a) _ (.type "list") (.builtin "list.__getattribute__") V6 V6) _ _ _;unfold rW;refine A4 (m:=hookBefore _) (Vb ?_);refine A4 (Hn (VD ?_));show V7 #[w,w] A (FV (.builtin "list.__getattribute__") (.ref a) _) _ _ _;unfold FV;rw[F.slot_list_getattribute.bind];refine A4 (Vb (Hw (O5 hh U λh' O e k zq=>?_)));erw[zq,oe,e1,e2];have Z:∀t,(⟨h',g,d,t,os⟩:o7).TypeIs (.ref e) "AttributeError":=λt=>[_:e1:e2];show V7 #[w,w] A (F0 (.ref a) _ (.type "list") (.ref e) U_ V6 V6) _ _ ⟨h',g,d,O,os⟩;unfold F0;refine A4 (V0 (Z _) KK ?_);rw[A3 rfl];have lg:hookBehind (.type "list") U_=pure none:=by
  show Hz (.type "list") "__getattr__"=pure U_;rw[rT,FR]
  kernel_rfl
 rw[lg];refine A4 (Vb ?_);show V7 #[w,w] A (R8 (.ref a) _ (.ref e) V6 V6) _ _ _;unfold R8;refine rY ?_;refine A4 (V0 (Z _) KK ?_);rw[A3 rfl];exact Vb (hq h' O k)
end
def WK:entryFor table "dict.update.loop"=u_ G6.«dict.update.loop»:=entryFor_of_fast (by kernel_rfl)
def J7:plainId "dict.update.loop"=true:=by decide+kernel
section
variable {prog:o9}{w:og}{A:oh}{E:o6->o7->Prop}{K:Type}[DecidableEq K]{knd:KeyKind prog w K}
nonrec def addAll (cur:oj (K×o6)):oj (K×o6)->oj (K×o6)
 | []=>cur
 |p::r=>addAll (Gu cur p.1 p.2) r
structure Abv (h:o8)(d it:o3)(v:o6)(p:K×o6):Prop where
 at_:∃(t:o3) (o:Obj) (k:o6) (n:Nat),v= .ref t/\t≠d/\t≠it/\h.get? t=u_ o/\o.cls= .type "tuple"/\o.data= .seq #[k,p.2] n/\knd.is p.1 k=v_
def B9 (hh:A.handled=U_){d it l:o3}{items:Array o6}{ps:oj (K×o6)}{R:G7->o7->Prop}(aq:d≠l)(au:it≠l)(aa:d≠it)(hn:items.size=↑ps)(hz:2*↑ps<=V9)(res:o6):
  ∀(m i:Nat) (s:o7) (O:oj (K×o6)),i+m=↑ps->s.heap.IsListIter it l i->s.heap.IsList l items->s.heap.DictOf knd d O->↑O<=i->
  (∀(j:Nat) (v:o6) (p:K×o6),items[j]? =u_ v->ps[j]? =u_ p->Abv (knd:=knd) s.heap d it v p)->
  (∀h' ac,h'.DictOf knd d (addAll O (ps.drop i))->(∀b o,b≠d->b≠it->s.heap.get? b=u_ o->h'.get? b=u_ o)->R (.ok (.ret res)) {s with heap:=h',toks:=ac})->
  VA #[w,w] A (.builtin "dict.update.loop" [[.ref d,.ref it,V_ i,res]:[]]) R s:=by
 intro m
 induction m with
 |zero=>
  intro i s O hm ad hl hd hc hp hR;refine U3 WK ?_;rw[vP J7 _];show V7 _ A.in1 (VM (.ref it)>>=_) _ _ s;refine A4 (TY (A:=A.in1) hh ad hl (by rw[Array.getElem?_eq_none ()]) λh' eb=>?_)
  have ae:h'.DictOf knd d O:=by
   erw[hd,o,es,ep,ho,r];exact⟨o,es,ep,eb d o aa ho,r⟩
  have:=hR h' s.toks (by rwa[List.drop_eq_nil_of_le ()]) λb o Z U e=>eb b o U e
  show V7 #[w,w] A.in1 (Dict.addKeywords d []>>=λ_=>ret res) _ _ _;refine A4 (m:=Dict.addKeywords d []) (Vb ?_);exact Vb this
 |succ m ih=>
  intro i s O hm ad hl hd hc hp hR;refine U3 WK ?_;rw[vP J7 _];have hi:i<items.size:=by omega
  have ag:i<↑ps:=by omega
  have hx:items[i]? =u_ items[i]:=Array.getElem?_eq_getElem hi;have aw:ps[i]? =u_ ps[i]:=um ag;erw[(hp i _ _ hx aw).at_,t,o,k,n,ev,aD,ax,ho,ay,aA,hk];rw[ev] at hx;show V7 _ A.in1 (VM (.ref it)>>=_) _ _ s;refine A4 (T_ (A:=A.in1) ad hl hx λh1 ah af=>?_);have ak:h1.get? t=u_ o:=(af.2 t ax).trans ho;have hT:(({s with heap:=h1}:o7)).TypeIs (.ref t) "tuple":=[_:ak:ay]
  have al:h1.DictOf knd d O:=hd.sameBut af aa;dsimp only;refine A4 (VD (A4 (wpAny_tryCatch ?_)));unfold Dict.pairItems;refine A4 (Gf hT ?_);rw[A3 ()]
  refine A4 ?_;unfold Ta;refine A4 (HH ak ?_);rw[aA];refine Vb (Vb ?_);show V7 #[w,w] A.in1 (gV [k,ps[i].2] (dictSet d k ps[i].2)) _ _ _;refine VD (wpAny_dictSet_pairs hk al (λh2 aB am=>?_) ())
  have ao:h2.IsListIter it l (i+1):=by
   erw[ah,oi,e,c];exact[oi:(am.2 it (Ux aa)).trans e:c]
  have keep:∀b ob,b≠d->b≠it->s.heap.get? b=u_ ob->h2.get? b=u_ ob:=λb ob Z U e=>(am.2 b Z).trans ((af.2 b U).trans e);have aC:h2.IsList l items:=by
   erw[hl,ol,e,c];exact[ol:keep l ol (Ux aq) (Ux au) e:c]
  refine Vb [V4 J7 _:?_];have ap:↑(Gu O ps[i].1 ps[i].2)<=i+1:=by
   unfold Gu;split
   ·rw[ud];omega
   ·rw[uB];show ↑O+1<=i+1;omega
  refine ih (i+1) _ _ () ao aC aB ap (λj v p h1 h2=>?_) λh' ac ae kp=>?_
  ·erw[(hp j v p h1 h2).at_,t',o',k',n',e1,e2,e3,e4,e5];exact⟨⟨t',o',k',n',e1,e2,e3,keep t' o' e2 e3 e4,e5⟩⟩
  ·refine hR h' ac ?_ λb ob Z U e=>kp b ob Z U (keep b ob Z U e);rw[vb ag];exact ae
def dict_pairs (hh:A.handled=U_){s:o7}{l:o3}{items:Array o6}{n:Nat}{sl:Array (om o6)}{ps:oj (K×o6)}{Q:o6->o7->Prop}(hl:s.heap.get? l=u_ {cls:= .type "list",dict:=U_,data:= .seq items n,slots:=sl})(hn:items.size=↑ps)(hz:2*↑ps<=V9)
  (hp:∀(j:Nat) (v:o6) (p:K×o6),items[j]? =u_ v->ps[j]? =u_ p->∃(t:o3) (o:Obj) (k:o6) (n:Nat),v= .ref t/\s.heap.get? t=u_ o/\o.cls= .type "tuple"/\o.data= .seq #[k,p.2] n/\knd.is p.1 k=v_)
  (hQ:∀h' aa,h'.DictOf knd #[0,s] (addAll [] ps)->(∀b o,s.heap.get? b=u_ o->h'.get? b=u_ o)->Q (.ref #[0,s]) {s with heap:=h',toks:=aa}):
  V7 #[w,w] A (call (.type "dict") [.ref l]) Q E s:=by
 refine rM (Q₁:=λobj s₁=>obj= .ref #[0,s]/\s₁={s with heap:=s.heap.push {cls:= .type "dict",data:= .dict #[]}}) F.kt_called_dict (F.kt_typeCall_dict_1 _) F.entry_dict_init (kt_code_dict_new _ [1:1]) ?_
 rintro obj s₁ ⟨rfl,rfl⟩;have U:(s.heap.push {cls:= .type "dict",data:= .dict #[]}).DictOf knd #[0,s] []:=TU s.heap;exists U.typeIs,F.args_dict_init_2 _ _;unfold G6.«dict.__init__»;refine A4 ?_;unfold pI;refine A4 (wpAny_notOrdered_dict U.typeIs ?_);refine(show V7 _ _ (pure (#[0,s],[Ve l])) _ _ _ from ?_)
 refine Vb ?_;refine(show V7 _ _ (TM "dict.__init__" #[0,s] (.ref l) [] .none) _ _ _ from ?_)
 unfold TM;have Z:(s.heap.push {cls:= .type "dict",data:= .dict #[]}).get? l=u_ {cls:= .type "list",dict:=U_,data:= .seq items n,slots:=sl}:=uh _ hl;refine A4 (Gf (T:="list") [_:Z:1] ?_);rw[A3 ()]
 refine A4 (O4 (A:=A.in1.in1) hh Z λh2 al k2=>?_);rw[A3 (show(U_:om o6).isNone=v_ from rfl)]
 have ac:l<#[0,s]:=uK hl;have ae:h2.IsList l items:=⟨_,k2 _ _ Z,1,n,1⟩;refine A4 (Uu (A4 (US ae ?_)));have ad:h2.DictOf knd #[0,s] []:=by
  erw[U,o,es,ep,ho,r];exact⟨o,es,ep,k2 _ _ ho,r⟩
 have O:#[0,s]<h2.objs.size:=by
  erw[ad,o,es,ep,ho,r];exact uK ho
 have k1:∀b o,s.heap.get? b=u_ o->h2.get? b=u_ o:=λb o e=>k2 b o (uh _ e);have k3:∀b o,h2.get? b=u_ o->(h2.push {cls:= .type "list_iterator",data:= .fields #[.ref l,.int 0 0]}).get? b=u_ o:=λb o e=>uh _ e;have af:(h2.push {cls:= .type "list_iterator",data:= .fields #[.ref l,.int 0 0]}).IsList l items:=⟨_,k3 _ _ (k2 _ _ Z),1,n,1⟩;have ag:(h2.push {cls:= .type "list_iterator",data:= .fields #[.ref l,.int 0 0]}).DictOf knd #[0,s] []:=ad.push _;refine Vb [V4 J7 _:B9 (A:=A.in1) hh (d:=#[0,s]) (it:=h2.objs.size) (l:=l) (items:=items) (ps:=ps) (U6 ac) (U6 (HG ac O)) (uR O) hn hz .none ↑ps 0 _ [] () ⟨_,uJ _ rfl,1,1⟩ af ag (uq _) (λj v p h1 ah=>?_) λh' aa ak kp=>?_]
 ·erw[hp j v p h1 ah,t,o,k,n',e1,e2,e3,e4,e5];have ht:=uK e2;exact⟨⟨t,o,k,n',e1,uR ht,uR (HG ht O),k3 _ _ (k1 _ _ e2),e3,e4,e5⟩⟩
 ·exists 1,hQ h' aa ak λb o e=>?_;have hb:=uK e;exact kp b o (uR hb) (uR (HG hb O)) (k3 _ _ (k1 _ _ e))
end
end PySem.AwK
namespace L2
open PySem PySem.Spec PyProof.Rows
section
variable {X:Cx}
nonrec def lN (ps:oj (Str×V)):oj (Key×V):=ps.map λp=>(Va p.1,p.2)
def Wo (ps:oj (Str×V)):(lN ps).map (·.1)=(ps.map (·.1)).map Sum.inr:=by
 unfold lN;rw[uU,uU]
 rfl
def BT {kvs:oj (Key×o6)}{k:Key}{v:o6}(h:k∉kvs.map (·.1)):Gu kvs k v=kvs++ [(k,v)]:=by
 unfold Gu;rw[A2];intro q;erw[List.any_eq_true.mp q,p,O,e];exact h (Ac.mpr [p:O:uw e])
def kl:∀{ps O:oj (Key×o6)},((O++ps).map (·.1)).Nodup->AwK.addAll O ps=O++ps
 | [],O,_=>(vg O).symm
 |p::r,O,h=>by
  unfold AwK.addAll;have U:p.1∉O.map (·.1):=by
   rw[uD,uC] at h;intro q;exact(List.nodup_append.mp h).2.2 _ q _ uj rfl
  rw[BT U,kl (by rw[UT];exact h),UT]
  rfl
def n9 {P:o9}{w:og}{H:Hp}{h:o8}(ok:HOk P w H h):∀{ts:oj o3}{ps:oj (Str×V)},↑ts=↑ps->(∀(i:Nat) (t:o3) (p:Str×V),ts[i]? =u_ t->ps[i]? =u_ p->H t=u_ (.tup [.str p.1,p.2]))->
  ∃pv:oj (Key×o6),KV (lN ps) pv/\∀(j:Nat) (v:o6) (p:Key×o6),(ts.map Ve)[j]? =u_ v->pv[j]? =u_ p->∃(t:o3) (o:Obj) (k:o6) (n:Nat),v= .ref t/\h.get? t=u_ o/\o.cls= .type "tuple"/\o.data= .seq #[k,p.2] n/\(Qu P w).is p.1 k=v_
 | [],[],_,_=>⟨[],.nil,λj v p e=>by simp at e⟩
 |t::ts,p::ps,hl,hp=>by
  obtain⟨pv,h1,h2⟩:=n9 ok (ts:=ts) (ps:=ps) (by simpa using hl) λi t' p' O U=>hp (i+1) t' p' (by simpa using O) (by simpa using U)
  obtain⟨_,its,rv,o,Z,hc,n,hd⟩:=(show yf P w H h t (.tup [.str p.1,p.2]) from ok t _ (hp 0 t p rfl rfl))
  cases rv with
  |cons r1 rv=>
  cases rv with
  |cons r2 rv=>
  cases rv with
  |nil=>
  erw[r1,tk,rfl]
  rename_i u
  exists (Va p.1,u)::pv,.cons [1:r2] h1,λj v q O U=>?_;cases j with
  |zero=>
   simp![uC,List.getElem?_cons_zero,pG] at O U;subst O U;exact⟨t,o,_,n,1,Z,hc,hd,Wk _ _ _ _⟩
  |succ j=>exact h2 j v q (by simpa using O) (by simpa using U)
 | [],_::_,hl,_=>by simp at hl
 |_::_,[],hl,_=>by simp at hl
nonrec def BN (H:Hp)(l:o3)(ps:oj (Str×V)):Prop:=∃ts:oj o3,H l=u_ (.lst (ts.map V.ref))/\↑ts=↑ps/\∀(i:Nat) (t:o3) (p:Str×V),ts[i]? =u_ t->ps[i]? =u_ p->H t=u_ (.tup [.str p.1,p.2])
def ET {oq:oj (o3×Obj)}{σ:St}{H:Hp}{s:o7}{l:o3}{ps:oj (Str×V)}{Q:o6->o7->Prop}(hc:X.calm=v_)(I:#[I])(hl:BN H l ps)(hn:(ps.map (·.1)).Nodup)(hz:↑ps<=1000)
  (h:∀h' O pv,0<O->(∀b o,s.heap.get? b=u_ o->h'.get? b=u_ o)->KV (lN ps) pv->h'.DictOf (Qu X.prog X.w) #[0,s] pv->Q (.ref #[0,s]) {s with heap:=h',toks:=O}):
  V7 #[X,X] X.A (call (.type "dict") [.ref l]) Q X.xe s:=by
 erw[hl,ts,e1,e2,e3];obtain⟨_,its,n,rv,ho⟩:=(show yf X.prog X.w H s.heap l (.lst (ts.map V.ref)) from I.hok l _ e1)
 cases nu rv;erw[n9 I.hok e2 e3,pv,r,hp];have ac:↑pv=↑ps:=by
  rw[<-↑r];unfold lN;rw[ud]
 have Z:(pv.map (·.1)).Nodup:=by
  rw[<-r.keys,Wo];exact ph _ (λa b aa e=>aa (Um e)) hn
 refine uZ (n:=1) I.tk ?_;refine AwK.dict_pairs (knd:=Qu X.prog X.w) (I.ok.hd hc) (ps:=pv) ho (by rw[uz,ud];omega) (by rw[uI];omega) (λj v p h1 h2=>hp j v p (by simpa using h1) h2) λh' O U kp=>?_
 rw[kl (by simpa using Z),List.nil_append] at U
 exact λhtk=>h h' O pv htk kp r U
def Cl (Z:X.calm=v_):Yt X (.type "dict") (λxs H Q=>∃(l:o3) (ps:oj (Str×V)),xs= [.ref l]/\BN H l ps/\(ps.map (·.1)).Nodup/\↑ps<=1000/\∀q,H q=U_->Q (.ref q) (upd H q (.dK (lN ps)))):=by
 exists 2,xs,us,Q,I,r,h;erw[h,l,ps,rfl,hl,hn,hz,q];erw[Jw r,u,rfl,ru];cases ru;refine ET Z I hl hn hz λh' aa pv htk kp rel dd=>?_;have O:(#[0,s]==Vv)=false:=by
  rw[beq_eq_false_iff_ne];exact U6 I.big
 have U:↑(lN ps)<=sizeLine:=by unfold lN;rw[ud,uI];omega
 exact⟨.ref #[0,s],_,I.laid kp (uq _) (BD U O rel dd),1,q _ I.fresh⟩
def Cm (Z:X.calm=v_):Yt X (.type "dict") (λxs H Q=>∃(l:o3) (ps:oj (Str×V)),xs= [.ref l]/\BN H l ps/\(ps.map (·.1)).Nodup/\↑ps<=1000/\∀q o,H q=U_->Q (.ref q) (upd H q (.frz o (.dK (lN ps))))):=by
 exists 2,xs,us,Q,I,r,h;erw[h,l,ps,rfl,hl,hn,hz,q];erw[Jw r,u,rfl,ru];cases ru;refine ET Z I hl hn hz λh' aa pv htk kp rel dd=>?_;have O:(#[0,s]==Vv)=false:=by
  rw[beq_eq_false_iff_ne];exact U6 I.big
 have U:↑(lN ps)<=sizeLine:=by unfold lN;rw[ud,uI];omega
 erw[id dd,o,es,ep,ho,rr];exact⟨.ref #[0,s],_,I.laid (o:= .frz o (.dK (lN ps))) kp (uq _) [ho:BD U O rel dd],1,q _ o I.fresh⟩
end
mutual
noncomputable def puD:D->Bool
 | .str _=>v_
 | .int _=>v_
 | .tup xs=>puL xs
 |_=>V6
noncomputable def puL:oj D->Bool
 | []=>v_
 |x::r=>puD x&&puL r
end
mutual
noncomputable def eqD:D->D->Bool
 | .str a,.str b=>a==b
 | .int a,.int b=>a==b
 | .tup xs,.tup ys=>eqL xs ys
 |_,_=>V6
noncomputable def eqL:oj D->oj D->Bool
 | [],[]=>v_
 |x::r,y::q=>eqD x y&&eqL r q
 |_,_=>V6
end
mutual
theorem EI:∀{d e:D},puD d=v_->(eqD d e=v_↔d=e)
 | .str a,e,_=>by cases e<;>simp[eqD]
 | .int a,e,_=>by cases e<;>simp[eqD]
 | .tup xs,.tup ys,h=>by
  have:=eqL_iff (xs:=xs) (ys:=ys) (by simpa [puD] using h)
  simp![eqD,this,D.tup.injEq]
 | .tup xs,.non,_=>by simp[eqD]
 | .tup xs,.bl _,_=>by simp[eqD]
 | .tup xs,.int _,_=>by simp[eqD]
 | .tup xs,.str _,_=>by simp[eqD]
 | .tup xs,.lst,_=>by simp[eqD]
 | .tup xs,.dct,_=>by simp[eqD]
 | .non,_,h=>by simp[puD] at h
 | .bl _,_,h=>by simp[puD] at h
 | .lst,_,h=>by simp[puD] at h
 | .dct,_,h=>by simp[puD] at h
theorem eqL_iff:∀{xs ys:oj D},puL xs=v_->(eqL xs ys=v_↔xs=ys)
 | [],[],_=>by simp[eqL]
 | [],_::_,_=>by simp[eqL]
 |_::_,[],_=>by simp[eqL]
 |x::r,y::q,h=>by
  have h':puD x=v_/\puL r=true:=by simpa [puL] using h
  simp![eqL,uF,EI h'.1,eqL_iff h'.2,UQ]
end
mutual
theorem Is.det {H:Hp}:∀{d e:D}{v:V},puD d=v_->puD e=v_->Is H d v->Is H e v->d=e
 | .str a,e,v,_,he,h1,h2=>by
  obtain⟨rfl,_⟩:=(show v= .str a/\_ from h1)
  cases e with
  |str b=>obtain⟨q,_⟩:=(show V.str a=V.str b/\_ from h2);cases q;rfl
  |int b=>cases(show V.str a=V.int b from h2)
  |tup ys=>erw[h2,p,us,q,_];cases q
  |_=>simp[puD] at he
 | .int a,e,v,_,he,h1,h2=>by
  cases(show v= .int a from h1)
  cases e with
  |str b=>obtain⟨q,_⟩:=(show V.int a=V.str b/\_ from h2);cases q
  |int b=>cases(show V.int a=V.int b from h2);rfl
  |tup ys=>erw[h2,p,us,q,_];cases q
  |_=>simp[puD] at he
 | .tup xs,e,v,hd,he,h1,h2=>by
  erw[h1,p,vs,rfl,Z,hl];cases e with
  |str b=>obtain⟨q,_⟩:=(show V.ref p=V.str b/\_ from h2);cases q
  |int b=>cases(show V.ref p=V.int b from h2)
  |tup ys=>
   erw[h2,p',us,q,O,U];cases q;rw[Z] at O;cases O;rw[IsL.det (by simpa [puD] using hd) (by simpa [puD] using he) hl U]
  |_=>simp[puD] at he
 | .non,_,_,hd,_,_,_=>by simp[puD] at hd
 | .bl _,_,_,hd,_,_,_=>by simp[puD] at hd
 | .lst,_,_,hd,_,_,_=>by simp[puD] at hd
 | .dct,_,_,hd,_,_,_=>by simp[puD] at hd
theorem IsL.det {H:Hp}:∀{xs ys:oj D}{vs:oj V},puL xs=v_->puL ys=v_->IsL H xs vs->IsL H ys vs->xs=ys
 | [],[],_,_,_,_,_=>rfl
 | [],_::_,_,_,_,h1,h2=>by
  cases(show _= [] from h1)
  erw[h2,v,r,q,_];cases q
 |_::_,[],_,_,_,h1,h2=>by
  cases(show _= [] from h2)
  erw[h1,v,r,q,_];cases q
 |x::xs,y::ys,_,hd,he,h1,h2=>by
  erw[h1,v,r,rfl,Z,a2];erw[h2,v',r',q,b1,b2];cases q;have O:puD x=v_/\puL xs=true:=by simpa [puL] using hd
  have U:puD y=v_/\puL ys=true:=by simpa [puL] using he
  rw[Is.det O.1 U.1 Z b1,IsL.det O.2 U.2 a2 b2]
end
def Ah:∀(xs ys:oj D),eqL xs ys=((Vh (min ↑xs ↑ys)).all (λj=>eqD (xs.getD j .non) (ys.getD j .non))&&↑xs==↑ys)
 | [],[]=>by simp[eqL]
 | [],_::_=>by simp[eqL]
 |_::_,[]=>by simp[eqL]
 |x::r,y::q=>by
  have O:=Ah r q;rw[uu,uu,show min (↑r+1) (↑q+1)=min ↑r ↑q+1 by omega,T0,vv,Uq]
  have e:(Vh (min ↑r ↑q)).all ((λj=>eqD ((x::r).getD j .non) ((y::q).getD j .non))∘tL)=(Vh (min ↑r ↑q)).all λj=>eqD (r.getD j .non) (q.getD j .non):=by congr 1
  rw[e];have U:(↑r+1==↑q+1)=(↑r==↑q):=by rw[vJ];simp
  rw[U,Fv,<-O]
  rfl
section
variable {X:Cx}{oq:oj (o3×Obj)}{σ:St}{H:Hp}{s:o7}
variable {z:Str}{e:D}{A:oh}
def LQ (I:#[I]){t:Tok}{u:V}{b:o6}(U:puD e=v_)(h2:Is H e u)(O:ik u b)(Z:A.units<Vg):Vp A s (.str z t) b (eqD (.str z) e):=by
 cases e with
 |str y=>
  obtain⟨rfl,_⟩:=(show u= .str y/\_ from h2)
  erw[O,t2,rfl];exact UO _ _ _ _
 |int y=>
  cases(show u= .int y from h2)
  erw[O,t2,rfl];exact UI _ _ _ _
 |tup ys=>
  erw[id h2,p,us,rfl,hp,hl];cases O;erw[I.tuple (.inl (.of hp)),its,_,q,_];exact Fy _ _ q Z
 |_=>simp[puD] at U
def Bz (I:#[I]){z:Int}{t:Tok}{u:V}{b:o6}(U:puD e=v_)(h2:Is H e u)(O:ik u b)(Z:A.units<Vg):Vp A s (.int z t) b (eqD (.int z) e):=by
 cases e with
 |str y=>
  obtain⟨rfl,_⟩:=(show u= .str y/\_ from h2)
  erw[O,t2,rfl];exact UH _ _ _ _
 |int y=>
  cases(show u= .int y from h2)
  erw[O,t2,rfl];exact HW _ _ _ _
 |tup ys=>
  erw[id h2,p,us,rfl,hp,hl];cases O;erw[I.tuple (.inl (.of hp)),its,_,q,_];exact Rg _ _ q Z
 |_=>simp[puD] at U
def ww:∀{xs:oj D}{j:Nat}{x:D},puL xs=v_->xs[j]? =u_ x->puD x=v_
 | [],_,_,_,e=>by simp at e
 |y::r,0,x,h,e=>by
  have h':puD y=v_/\puL r=true:=by simpa [puL] using h
  have:y=x:=by simpa using e
  exact this▸h'.1
 |y::r,j+1,x,h,e=>by
  have h':puD y=v_/\puL r=true:=by simpa [puL] using h
  exact ww h'.2 (by simpa using e)
def LP (I:#[I]){xs:oj D}{e:D}{v u:V}{a b:o6}{A:oh}(hd:puD (.tup xs)=v_)(he:puD e=v_)(h1:Is H (.tup xs) v)(h2:Is H e u)(r1:ik v a)(r2:ik u b)(hu:A.units<Vg)
  (ih:∀x∈xs,∀(e:D) (v u:V) (a b:o6),puD x=v_->puD e=v_->Is H x v->Is H e u->ik v a->ik u b->Vp A.in1 s a b (eqD x e)):Vp A s a b (eqD (.tup xs) e):=by
 erw[id h1,p,vs,rfl,hp,hl];cases r1;erw[I.tuple (.inl (.of hp)),its,rv,q,_];cases e with
 |str y=>
  obtain⟨rfl,_⟩:=(show u= .str y/\_ from h2)
  erw[r2,t2,rfl];exact rE _ _ q hu
 |int y=>
  cases(show u= .int y from h2)
  erw[r2,t2,rfl];exact rV _ _ q hu
 |tup ys=>
  by_cases hv:V.ref p=u
  ·have:=Is.det (e:= .tup ys) hd he h1 (hv▸h2);subst hv;cases r2;rw[<-this,(EI hd).mpr rfl];exact HK _
  ·erw[id h2,p',us,rfl,aa,O];cases r2;erw[I.tuple (.inl (.of aa)),its',U,q',_];have l1:↑its=↑xs:=by rw[<-↑rv,↑hl]
   have l2:↑its'=↑ys:=by rw[<-↑U,↑O]
   have ac:puL xs=true:=by simpa [puD] using hd
   have ad:puL ys=true:=by simpa [puD] using he
   have ae:=UU (e:=λj=>eqD (xs.getD j .non) (ys.getD j .non)) q q' hu λj a1 a2=>by
    have Z:j<↑xs:=by rw[<-l1];simpa using a1
    have j2:j<↑ys:=by rw[<-l2];simpa using a2
    obtain⟨v1,e1,i1⟩:=hl.get (i:=j) (d:=xs[j]) (by simp[Z])
    obtain⟨v2,e2,i2⟩:=O.get (i:=j) (d:=ys[j]) (by simp[j2])
    erw[rv.get e1,b1,f1,g1];erw[U.get e2,b2,f2,g2];have k1:its.toArray[j]=b1:=by
     have:=f1;rw[um (by rwa[l1])] at this
     simpa using this
    have k2:its'.toArray[j]=b2:=by
     have:=f2;rw[um (by rwa[l2])] at this
     simpa using this
    have d1:xs.getD j .non=xs[j]:=by simp[VW,Z]
    have d2:ys.getD j .non=ys[j]:=by simp[VW,j2]
    show Vp _ s _ _ (eqD (xs.getD j .non) (ys.getD j .non));rw[k1,k2,d1,d2];exact ih _ (uO Z) _ _ _ _ _ (ww (j:=j) ac (by simp[Z])) (ww (j:=j) ad (by simp[j2])) i1 i2 g1 g2
   have e1:eqD (.tup xs) (.tup ys)=((Vh (min its.toArray.size its'.toArray.size)).all (λj=>eqD (xs.getD j .non) (ys.getD j .non))&&its.toArray.size==its'.toArray.size):=by
    rw[uz,uz,l1,l2,<-Ah];simp![eqD]
   rw[e1];exact rC (λz=>hv (by rw[z])) ae
 |_=>simp[puD] at he
def MO (I:#[I]):∀(n:Nat) (d e:D) (v u:V) (a b:o6) (A:oh),dp d<=n->puD d=v_->puD e=v_->Is H d v->Is H e u->ik v a->ik u b->A.units+n<Vg->Vp A s a b (eqD d e):=by
 intro n
 induction n with
 |zero=>
  intro d e v u a b A hn hd U h1 h2 Z r2 hu;cases d with
  |int z=>
   cases(show v= .int z from h1)
   erw[Z,t,rfl];exact Bz I U h2 r2 hu
  |str z=>simp[dp] at hn
  |tup xs=>simp[dp] at hn
  |_=>simp[puD] at hd
 |succ n ih=>
  intro d e v u a b A hn hd U h1 h2 Z r2 hu;have O:A.units<cLine:=Uj (V1 _ _) hu;cases d with
  |int z=>
   cases(show v= .int z from h1)
   erw[Z,t,rfl];exact Bz I U h2 r2 O
  |str z=>
   obtain⟨rfl,_⟩:=(show v= .str z/\_ from h1)
   erw[Z,t,rfl];exact LQ I U h2 r2 O
  |tup xs=>
   have hm:dpL xs<=n:=by
    have:dp (.tup xs)=1+dpL xs:=by simp![dp]
    omega
   exact LP I hd U h1 h2 Z r2 O λx hx e v u a b k1 k2 k3 k4 k5 k6=>ih x e v u a b A.in1 ((wv xs).mp hm x hx) k1 k2 k3 k4 k5 k6 (by rw[uY];omega)
  |_=>simp[puD] at hd
end
section
variable {X:Cx}
nonrec def trD:D->Bool
 | .str _=>v_
 | .tup xs=>puL xs
 |_=>V6
variable {oq:oj (o3×Obj)}{σ:St}{H:Hp}{s:o7}{A:oh}{n:Nat}{its:oj o6}
def Lc (I:#[I]){xs ys:oj D}{vs us:oj V}{its':oj o6}(hn:dpL xs<=n)(hd:puL xs=v_)(he:puL ys=v_)(hl:IsL H xs vs)(O:IsL H ys us)(rv:im vs its)(U:im us its')(hu:A.units+n<Vg):
  ∀j (a1:j<its.toArray.size) (a2:j<its'.toArray.size),Vp A s its.toArray[j] its'.toArray[j] (eqD (xs.getD j .non) (ys.getD j .non)):=λj a1 a2=>by
 have l1:↑its=↑xs:=by rw[<-↑rv,↑hl]
 have l2:↑its'=↑ys:=by rw[<-↑U,↑O]
 have Z:j<↑xs:=by rw[<-l1];simpa using a1
 have j2:j<↑ys:=by rw[<-l2];simpa using a2
 obtain⟨v1,e1,i1⟩:=hl.get (i:=j) (d:=xs[j]) (by simp[Z])
 obtain⟨v2,e2,i2⟩:=O.get (i:=j) (d:=ys[j]) (by simp[j2])
 erw[rv.get e1,b1,f1,g1];erw[U.get e2,b2,f2,g2];have k1:its.toArray[j]=b1:=by
  have:=f1;rw[um (by rwa[l1])] at this
  simpa using this
 have k2:its'.toArray[j]=b2:=by
  have:=f2;rw[um (by rwa[l2])] at this
  simpa using this
 have d1:xs.getD j .non=xs[j]:=by simp[VW,Z]
 have d2:ys.getD j .non=ys[j]:=by simp[VW,j2]
 rw[k1,k2,d1,d2];exact MO I n _ _ _ _ _ _ A ((wv xs).mp hn _ (uO Z)) (ww (j:=j) hd (by simp[Z])) (ww (j:=j) he (by simp[j2])) i1 i2 g1 g2 hu
variable {e:D}{y:V}{u:o6}
def AdB (I:#[I]){d:D}{x:V}{v:o6}(h1:Is H d x)(h2:Is H e y)(p1:trD d=v_)(p2:trD e=v_)(hn:dp d<=60)(rx:ik x v)(ry:ik y u)(hu:A.units+64<Vg):
  rn A s v u (eqD d e)/\rZ A s v u (!eqD d e):=by
 have O:A.units<cLine:=by omega
 cases d with
 |str z=>
  obtain⟨rfl,_⟩:=(show x= .str z/\_ from h1)
  erw[rx,t,rfl];cases e with
  |str w=>
   obtain⟨rfl,_⟩:=(show y= .str w/\_ from h2)
   erw[ry,t2,rfl];exact[pM _ _ _ _:pD _ _ _ _]
  |tup ys=>
   erw[id h2,p,us,rfl,hp,hl];cases ry;erw[I.tuple (.inl (.of hp)),its,_,q,_];exact[rm _ _ q O:RZ _ _ q O]
  |_=>simp[trD] at p2
 |tup xs=>
  erw[id h1,p,vs,rfl,hp,hl];cases rx;erw[I.tuple (.inl (.of hp)),its,rv,q,_];cases e with
  |str w=>
   obtain⟨rfl,_⟩:=(show y= .str w/\_ from h2)
   erw[ry,t2,rfl];exact[Fo _ _ q O:p7 _ _ q O]
  |tup ys=>
   erw[id h2,p',us,rfl,aa,U];cases ry;erw[I.tuple (.inl (.of aa)),its',Z,q',_];have hm:dpL xs<=60:=by
    have:dp (.tup xs)=1+dpL xs:=by simp![dp]
    omega
   have l1:↑its=↑xs:=by rw[<-↑rv,↑hl]
   have l2:↑its'=↑ys:=by rw[<-↑Z,↑U]
   have pe:=Lc I (A:=A.in1) hm (by simpa [trD] using p1) (by simpa [trD] using p2) hl U rv Z (by rw[uY];omega)
   have e1:eqD (.tup xs) (.tup ys)=((Vh (min its.toArray.size its'.toArray.size)).all (λj=>eqD (xs.getD j .non) (ys.getD j .non))&&its.toArray.size==its'.toArray.size):=by
    rw[uz,uz,l1,l2,<-Ah];simp![eqD]
   rw[e1];exact[UU q q' O pe:FW q q' O pe]
  |_=>simp[trD] at p2
 |_=>simp[trD] at p1
inductive Acl (g:Bool->Bool)(x:V)(y:V)(H:Hp)(Q:VK):Prop
 |mk (d e:D)(_:Is H d x)(_:Is H e y)(_:trD d=v_)(_:trD e=v_)(_:dp d<=60)(_:Q (.bl (g (eqD d e))) H)
def Dz (O:X.A.units+64<Vg):OpR X (Vj .Eq) (Acl id):=by
 exists 2,x,y,v,u,Q,I,U,Z,h;erw[h,d,e,h1,h2,p1,p2,hn,q];exact(AdB I h1 h2 p1 p2 hn U Z O).1 X.prog X.w X.xe _ ⟨.bl _,H,I,1,q⟩
end
variable {X:Cx}
def JE:Yt X (.builtin "len") (λxs H Q=>(∃z:Str,xs= [.str z]/\↑z<=V9/\Q (.int ↑z) H)∨∃p ys,xs= [.ref p]/\(SqL X.K H p ys∨SqT X.K H p ys)/\(↑ys<=V9->Q (.int ↑ys) H)):=by
 exists 2,xs,us,Q,I,r,h;rcases h with⟨z,e,O,q⟩|h
 ·exact Ka oq s σ H xs us Q I r ⟨_,↑z,e,[O:1],q⟩
 ·exact Fr oq s σ H xs us Q I r h
nonrec def AcI (K:o0)(n:Nat)(t:TGs):TG:=λv σ H Q=>∃a xs,v= .ref a/\SqL K H a xs/\↑xs=n/\t xs σ H Q
def On {X:Cx}{es:oj Expr}{k:Nat}{t:TGs}{n:Nat}{pos:Pos}(Z:X.calm=v_)(h:PGs X es t)
  (hn:↑(VX es X.env)=n) (O:(VX es X.env).findIdx? (·.1)=U_):PG X (.Tuple es k pos) (AcI X.K n t):=by
 exists 2,v,u,Q,I,r,U;erw[U,a,xs,e1,hq,hl,U];subst e1;cases r;erw[I.list hq,its,rv,ht,hz];rw[assign_Tuple];refine A4 (Hm ?_);unfold unpack;rw[O,hn,<-hl,show ↑xs=its.toArray.size by simp[rv.length]]
 refine A4 (VD (PySem.W.kun_itemsOf (I.ok.hd Z) ht.isList λh' hx=>?_));have I1:Inv X oq σ H {s with heap:=h'}:=I.kept (t':=s.toks) λb o e=>hx b o (uR (uK e)) e
 exact h oq _ σ H xs _ Q I1 (by simpa using rv) U
variable {w:og}{K:o0}{mg:Str->om o6}{f:o3}{A:oh}
def Aco {P:o9}{base:o8}{N:oj Str}{qual:Str}{scope:Vr}{cd:o6}{outer:oj Env}{s₀:o7}{H₀:Hp}{E:XK}:
  XH (CX1 P w) (cxOf (CX1 P w) P w K mg base N qual scope f cd A outer s₀ H₀ E) E:=by
 intro oq σ H s e s' I h;erw[h,ea,C,a0,H',B,rfl,au,ae,htk,aw,al,am,hold,hE];show V7 (Vk P w) (A.deeper (Vd qual scope #[0,s₀] f cd)) (tN (Vd qual scope #[0,s₀] f cd) (.ref ea)) (λ_ af=>CX1 P w outer H₀ s₀ E (.ref ea) af) (λe' af=>CX1 P w outer H₀ s₀ E e' af) _;have ax:(A.deeper (Vd qual scope #[0,s₀] f cd)).frames=u_ (Vd qual scope #[0,s₀] f cd::outer):=I.ok.frames;have ag:frs (Vd qual scope #[0,s₀] f cd::outer)=#[0,s₀]::frs outer:=rfl;have O:Un (frs outer) [] H₀ H s₀.heap s.heap:=I.base;have U:Un (frs (Vd qual scope #[0,s₀] f cd::outer)) [] H H' s.heap s'.heap:=aw;have aa:rc B (Vd qual scope #[0,s₀] f cd::outer) ea (.ref C) a0 s'.heap:=am;have ac:∀b o,s.heap.get? b=u_ o->b∉frs (Vd qual scope #[0,s₀] f cd::outer)->∃o',B.get? b=u_ o':=hold;have ay:=aa.2.2.1;have ad:∀b o,s₀.heap.get? b=u_ o->b∉frs outer->b∉frs (Vd qual scope #[0,s₀] f cd::outer):=λb o e hb hm=>by
  rw[ag] at hm;rcases A9.mp hm with rfl|hm
  ·exact A7 (uK e) (vI _)
  ·exact hb hm
 have nd:∀b∈frs outer,∀o,s'.heap.get? b=u_ o->∀vs,o.data≠ .fields vs:=λb hb o e=>by
  obtain⟨_,o',e',hn⟩:=ay.mem (show b∈(Vd qual scope #[0,s₀] f cd::outer).filterMap (·.frame) from by rw[show(Vd qual scope #[0,s₀] f cd::outer).filterMap (·.frame)=frs (Vd qual scope #[0,s₀] f cd::outer) from rfl,ag];exact ui _ hb)
  rw[e] at e';cases e';exact hn
 refine wpAny_leaves_onW (base:=B) (L:=#[0,s₀]) ax rfl aa λaA ah ao=>?_;have aB:∀b o o',B.get? b=u_ o'->s'.heap.get? b=u_ o->aA.get? b=u_ o:=λb o o' Z e2=>by
  have:=aa.1 b o' Z;rw[e2] at this;cases this;exact ah.1 b o Z
 exists ea,C,a0,H',B,1,au.trans I.os,ae,htk,⟨?_,?_,?_,?_,?_,?_,?_⟩,al,ah,?_,hE
 ·intro b o Z hn hb hx;have e2:=O.keep b o Z hn hb hx;have ak:=O.free b o Z hn hx;have ap:=ad b o Z hb;have e3:=U.keep b o e2 ak ap hx;erw[ac b o e2 ap,o',e4];exact aB b o o' e4 e3
 ·intro b o Z hn hb hx;erw[O.slot b o Z hn hb hx,sl,e2];have ak:=O.free b o Z hn hx;obtain⟨aC,e3⟩:=U.slot b _ e2 ak (by rw[ag];exact ui _ hb) hx
  erw[ao b _ e3 (nd b hb _ e3),aq,e4];exact[aq:e4]
 ·intro b o Z hn hx;erw[O.there b o Z hx,o',e2];exact U.free b o' e2 (O.free b o Z hn hx) hx
 ·intro b o Z hx;erw[O.there b o Z hx,o',e2];by_cases hb:b∈frs outer
  ·erw[U.there b o' e2 hx,o2,e3];erw[ao b _ e3 (nd b hb _ e3),aq,e4];exact[_:e4]
  ·erw[ac b o' e2 (ad b o Z hb),o2,e3];exact[o2:ah.1 b o2 e3]
 ·exact λb xs e=>U.tups b xs (O.tups b xs e)
 ·exact λb o u e=>U.frzs b o u (O.frzs b o u e)
 ·intro b ps e;erw[O.tbls b ps e,m1,Z];erw[U.tbls b _ Z,m2,e2];exact⟨m1++m2,by rwa[<-HY]⟩
 ·intro b o Z hb;obtain⟨o',e2⟩:=O.there b o Z (by simp)
  exact ac b o' e2 (ad b o Z hb)
def Aay:XH (CX1 X.prog X.w) X E0:=λ_ _ _ _ _ _ _ h=>by
 erw[h,_,_,_,_,_,_,_,_,_,_,_,_,_,z];exact VB z
end L2
namespace L2
open PySem PyProof.Rows
variable {H:Hp}{p:o3}
def Tk.updD {xs ys:oj (Key×V)}(h:H p=u_ (.dK xs)):Tk H (upd H p (.dK ys)):=by
 exists λb zs e=>?_,λb zs e=>[zs:?_],λb zs e=>?_
 ·rw[qj (λz=>by rw[z,h] at e;cases e)];exact e
 ·rw[qj (λz=>by rw[z,h] at e;cases e)];exact e
 ·by_cases z:b=p
  ·exact⟨ys,by rw[z];exact qg⟩
  ·exact⟨zs,by rwa[qj z]⟩
variable {C dx:o3}
def Tk.updI {O dx':o3}{xs ys:oj (Str×V)}(h:H p=u_ (.ins C dx xs)):Tk H (upd H p (.ins O dx' ys)):=
 ⟨λb zs e=>by rw[qj (λz=>by rw[z,h] at e;cases e)];exact e,λb zs e=>⟨zs,by rw[qj (λz=>by rw[z,h] at e;cases e)];exact e⟩,λb zs e=>⟨zs,by rw[qj (λz=>by rw[z,h] at e;cases e)];exact e⟩⟩
section
variable {X:Cx}
inductive NZ (x:V)(vs:List V)(H:Hp)(Q:VK):Prop
 |mk (z y:Str)(_:x= .str z)(_:vs= [.str y])(_:Q (.bl (Gg z y)) H)
def DZ:MtM X "str.startswith" NZ:=by
 exists 2,x,vs,v,us,Q,I,O,rv,h;erw[h,z,y,rfl,rfl,q];erw[O,t,rfl];erw[rv.one,u,rfl,t',rfl];exact SC.startswith ⟨.bl (Gg z y),H,I,1,q⟩
end
def Pd {d A:o3}{o:Obj}{H1:Hp}{tc:TT}{te:TE}{tl:St}{Q:VK}{kvs:oj (Key×V)}{ls:oj Str}(p:Str->Bool)(f:Str->V)(hd:H1 d=u_ (.frz o (.dK kvs)))(hk:kvs.map (·.1)=ls.map Va)(hn:↑ls<=V9)(hA:H1 A=U_)
  (U:∀z H (R:Bool->Hp->Prop),z∈ls->ia H1 H->R (p z) H->tc (u_ (.str z)::tl) H R)
  (Z:∀z H (R:VK),z∈ls->ia H1 H->R (f z) H->te (u_ (.str z)::tl) H R)
  (hQ:∀H',ia H1 H'->H' A=u_ (.lst ((ls.filter p).map f))->Q (.ref A) H'):Ed A (Itd d o) (YY 0) tc te (U_::tl) H1 Q:=by
 have ac:↑kvs=↑ls:=by
  have:=A8 g_ hk
  simpa using this
 exists ↑ls,λi σ ys H=>(∃w,σ=w::tl)/\ys=((ls.take i).filter p).map f/\ia H1 H,hn,[[U_:1]:1:qf hA _],?_,?_
 ·rintro i σ ys H hi ⟨⟨w,rfl⟩,rfl,sm⟩ O hy;exists [kvs:sm _ _ hd:()]
  rintro x H' ⟨rfl,hx⟩;have e:=hx kvs (sm _ _ hd);have e2:(kvs.map λp=>kV p.1)[i]? =u_ (V.str ls[i]):=by
   have:(kvs.map λp=>kV p.1)=(kvs.map (·.1)).map kV:=by rw[uU];rfl
   rw[this,hk,uU,uM,um hi]
   rfl
  rw[e2] at e;cases e;have et:ls.take (i+1)=ls.take i++ [ls[i]]:=by rw[vx,um hi];rfl
  have aa:∀ys,ia H1 (upd H' A (.lst ys)):=λys b o' e=>by
   rw[qj (qk e hA)];exact sm _ _ e
  dsimp![YY,Ge];refine U ls[i] H' _ (uO hi) sm ?_;cases hp:p ls[i] with
  |true=>
   refine lC (Z ls[i] H' _ (uO hi) sm ⟨O,⟨0⟩,?_,aa _⟩);rw[et,FN,uD];simp[hp]
  |false=>
   refine iP ⟨O,⟨0⟩,?_,sm⟩;rw[et,FN,uD];simp[hp]
 ·rintro σ ys H ⟨_,rfl,sm⟩ O;rw[Uc] at O;exact[[kvs:sm _ _ hd:()]:hQ H sm O]
def Pb {K:o0}{a A:o3}{H1:Hp}{te:TE}{tl:St}{Q:VK}{ls:oj Str}(C:Nat->oj V->Hp->Prop)(ha:H1 a=u_ (.lst (ls.map V.str)))(hn:↑ls<=V9)(hA:H1 A=U_)(h0:C 0 [] (upd H1 A (.lst [])))
  (aa:∀i z ys H,ls[i]? =u_ z->C i ys H->H A=u_ (.lst ys)->H a=u_ (.lst (ls.map V.str))->↑ys<=i->∀R:VK,(∀y H4,H4 A=u_ (.lst ys)->H4 a=u_ (.lst (ls.map V.str))->C (i+1) (ys++ [y]) (upd H4 A (.lst (ys++ [y])))->R y H4)->te (u_ (.str z)::tl) H R)
  (hQ:∀ys H,C ↑ls ys H->H A=u_ (.lst ys)->Q (.ref A) H):Ed A (Itl K a) (YY 0) sA te (U_::tl) H1 Q:=by
 have U:a≠A:=qk ha hA;refine⟨↑ls,λi σ ys H=>(∃w,σ=w::tl)/\C i ys H/\H a=u_ (.lst (ls.map V.str)),hn,⟨[U_:1],h0,by rwa[qj U]⟩,?_,?_⟩
 ·rintro i σ ys H hi ⟨⟨w,rfl⟩,hc,Z⟩ O hy;have e0:(ls.map V.str)[i]? =u_ (V.str ls[i]):=by rw[uM,um hi];rfl
  exists ⟨_,_,SqL.of Z,e0⟩;rintro x H' ⟨rfl,hx⟩;have e:=hx _ (SqL.of Z);rw[e0] at e;cases e;dsimp![YY,sA,Ge];rw[A3 rfl];exact aa i ls[i] ys H' (um hi) hc O Z hy _ λy H4 h4 h5 c4=>⟨h4,⟨0⟩,c4,by rwa[qj U]⟩
 ·rintro σ ys H ⟨_,hc,Z⟩ O;exact⟨⟨_,SqL.of Z,by simp⟩,hQ ys H hc O⟩
section
variable {X:Cx}{K:o0}{o e:Expr}{es:oj Expr}{to:TE}{t:TA}{name:Str}{apos cpos:Pos}{T id:String}{r:V->oj V->Hp->VK->Prop}
def Aax (hK:X.K=K)(pa:TD T)(slot:Slot T name id)(ac:typeOf (.builtin id)=pure (.type "method_descriptor"))(hm:MtR X id r)(ho:PE X o to)(ha:PA X (e::es) t)
  (U:GE o name X.env (eval o X.env)=eval o X.env)
  (aa:((Vm cpos (Vc (e::es) X.env)).all (λx=> !x.1)&&(GD cpos (GB [] X.env)).all (λx=>x.1.isSome)
   &&decide (↑(e::es)+↑([]:oj Gx)+(if([]:oj Gx).isEmpty then 0 else 1)<30))=v_)
  (Z:(apos.endLine==cpos.line)=v_) (hs:Vc (e::es) X.env=(V6,eval e X.env)::Vc es X.env) (O:(Vm cpos (Vc es X.env)).any (·.1)=V6):
  PE X (.Call (.Attribute o name apos) (e::es) [] cpos) (tBM K T r to t):=by
 subst hK;exact jk pa slot ac hm ho ha U aa Z hs O
end
def oo {α β:Type}{F:α->β->Prop}:∀{l₁:oj α}{l₂:oj β},Paired F l₁ l₂->∀{j:Nat}{a:α}{b:β},l₁[j]? =u_ a->l₂[j]? =u_ b->F a b
 |_,_,.nil,j,a,b,h,_=>by simp at h
 |_,_,.cons f r,0,a,b,h1,h2=>by
  cases h1;cases h2;exact f
 |_,_,.cons f r,j+1,a,b,h1,h2=>oo r (j:=j) (by simpa using h1) (by simpa using h2)
nonrec def Ms:D->Bool
 | .non=>v_
 |d=>trD d
section
variable {X:Cx}
inductive AdI (x:V)(y:V)(H:Hp)(Q:VK):Prop
 |mk (d:D)(z:Str)(_:Is H d x)(_:y= .str z)(_:↑z<=1000)(_:Ms d=v_)(_:dp d<=60)(_:Q (.bl (eqD d (.str z))) H)
def AaC (hu:X.A.units+64<Vg):OpR X (Vj .Eq) AdI:=by
 exists 2,x,y,v,u,Q,I,O,U,h;erw[h,d,z,hd,rfl,hz,Z,hp,q];cases d with
 |non=>
  cases(show x= .non from hd)
  exact Qr oq s σ H .non (.str z) v u Q I O U ⟨1,by simpa [eqD] using q⟩
 |str a=>exact Dz hu oq s σ H x _ v u Q I O U ⟨_,.str z,hd,⟨1,by rw[uI];omega⟩,Z,1,hp,q⟩
 |tup a=>exact Dz hu oq s σ H x _ v u Q I O U ⟨_,.str z,hd,⟨1,by rw[uI];omega⟩,Z,1,hp,q⟩
 |_=>simp[Ms,trD] at Z
inductive AdG (K:PySem.W.Frag)(x:V)(y:V)(H:Hp)(Q:VK):Prop
 |mk (d:D)(p:Addr)(ls:List Str)(_:Is H d x)(_:y= .ref p)(_:(SqL K H p (ls.map V.str)∨SqT K H p (ls.map V.str)))(_:(∀z∈ls,↑z<=1000))(_:Ms d=v_)(_:dp d<=60)(_:Q (.bl (ls.any λz=>eqD d (.str z))) H)
def EF (us:oj Str):(us.map V.str).all ZQ=true:=by
 rw[Uq,Ub];exact λ_ _=>rfl
def Mp (hu:X.A.units+64<Vg):OpR X (Vj .In) (AdG X.K):=by
 exists 2,x,y,v,u,Q,I,rx,ry,h;erw[h,d,p,ls,hd,rfl,O,ac,hk,hp,q];cases d with
 |non=>
  cases(show x= .non from hd)
  refine QF oq s σ H .non _ v u Q I rx ry ⟨p,0,O,1,EF _,?_⟩;have e:inV .non (ls.map V.str)=ls.any λz=>eqD .non (.str z):=by
   unfold inV;rw[Tu]
   rfl
  rwa[A2 uc,e]
 |str a=>
  erw[hd,rfl,_];refine QF oq s σ H _ _ v u Q I rx ry ⟨p,0,O,1,EF _,?_⟩;have e:inV (.str a) (ls.map V.str)=ls.any λz=>eqD (.str a) (.str z):=by
   unfold inV;rw[Tu];refine A8 (λf=>ls.any f) (funext λz=>?_);show(z==a)=(a==z);rw[vJ,beq_iff_eq,beq_iff_eq];exact eq_comm
  rwa[A2 uc,e]
 |tup xs=>
  have e:(ls.any λz=>eqD (.tup xs) (.str z))=false:=by
   rw[T7];intro z _;simp[eqD]
  rw[e] at q;erw[hd,pa,vs,rfl,ha,hl];cases rx;cases ry;erw[I.tuple (.inl (.of ha)),ad,ae,af,_];have ag:X.A.units<cLine:=by omega
  have U:∀{its:oj o6},im (ls.map V.str) its->∀w∈its,∀A:oh,A.units+1<Vg->Vp A s w (.ref pa) false:=by
   intro its r w Z A hA;erw[List.mem_iff_getElem?.mp Z,j,hj];have aa:j<↑ls:=by
    have:=(Ae.mp hj).1;have:=↑r;rw[ud] at this;omega
   obtain⟨u',e1,e2⟩:=r.get (i:=j) (x:=V.str ls[j]) (by rw[uM,um aa];rfl)
   rw[hj] at e1;cases e1;have:=MO I 1 (.str ls[j]) (.tup xs) (.str ls[j]) (.ref pa) _ (.ref pa) A (by simp[dp]) rfl (by simpa [Ms,trD,puD] using hk) ⟨1,by have:=ac _ (uO aa);rw[uI];omega⟩ ⟨pa,vs,1,ha,hl⟩ e2 rfl ()
   simpa [eqD] using this
  rcases O with O|O
  ·erw[I.list O,its,r,pl,hz];refine Ra (λ_=>V6) pl.isList (λw Z=>U r w (by simpa using Z) _ ?_) ⟨.bl _,H,I,1,?_⟩
   ·first|omega|(rw[uY];omega)|(rw[uY,uY];omega)|(rw[uY,uY,uY];omega)
   ·rw[show its.toArray.any (λ_=>V6)=V6 by rw[FY];exact List.any_eq_false.mpr λ_ _=>uc]
    exact q
  ·erw[I.tuple O,its,r,pl,hz];refine Rc (λ_=>V6) pl (λw Z=>U r w (by simpa using Z) _ ?_) ⟨.bl _,H,I,1,?_⟩
   ·first|omega|(rw[uY];omega)|(rw[uY,uY];omega)|(rw[uY,uY,uY];omega)
   ·rw[show its.toArray.any (λ_=>V6)=V6 by rw[FY];exact List.any_eq_false.mpr λ_ _=>uc]
    exact q
 |_=>simp[Ms,trD] at hk
end
end L2
namespace L2
open PySem PySem.Spec PyProof.Rows Builtin Builtin.Str
nonrec def SR (P:o9)(w:og)(K:o0)(mg:Str->om o6)(base:o8)(k:Nat)(tf:TE)(t:TA):TE:=λσ H Q=>tf σ H λv H1=>∃(f:o3) (fd:V8) (ps:oj Str) (sp:Sp),v= .ref f/\
 FnOk P w K mg base CX0 k f fd ps sp/\zU K fd ps []/\PySem.W.keepIn K (.ref f)=v_/\t σ H1 λvs H2=>sp vs H2 Q E0
def La {X:Cx}{o i e:Expr}{es:oj Expr}{O pos:Pos}{Z:TE}{t:TA}{k:Nat}{P:o9}{w:og}{K:o0}{mg:Str->om o6}{base:o8}(e1:X.prog=P/\X.w=w/\X.K=K/\X.mg=mg/\X.base=base)(hf:PE X (.Subscript o i O) Z)(hr:mr k X.A)(ha:PA X (e::es) t)
  (he:Vc (e::es) X.env=(V6,eval e X.env)::Vc es X.env) (U:(Vm pos (Vc es X.env)).any (·.1)=V6):
  PE X (.Call (.Subscript o i O) (e::es) [] pos) (SR P w K mg base k Z t):=by
 erw[e1,rfl,rfl,rfl,rfl,rfl];exists 2,Q,I,h;show V7 _ _ (do Tg pos (<-eval (.Subscript o i O) X.env) [] (Vm pos (Vc (e::es) X.env)) (GD pos (GB [] X.env))) _ _ s
 refine A4 (thn (hf oq s σ H _ I h) λu s1 zq=>?_);erw[zq,v,H1,I1,rv,f,fd,ps,sp,ev,F,hb,hk,q];subst ev;obtain rfl:u=Ve f:=rv;refine UL (h₀:=X.base) I1.ok.mod.kin hk (thn (ha pos oq s1 σ H1 _ I1 q) λus s2 ⟨vs,H2,I2,r,q2⟩=>[I2.kIn:?_]) he U;exact AH (ds:= []) (dvs:= []) F hr hb .nil qA I2 r (by rw[vg];exact q2)
def Ki (z y:Str)(hi O:Nat):∀(l:oj Nat) (st:Array Nat×Nat),(VT l st (Gh z y hi O)).run.fst.size<=st.fst.size+↑l
 | [],st=>uq _
 |a::l,st=>by
  rw[Uo];unfold Gh;split
  ·refine uT (Ki z y hi O l _) ?_;simp![R9,uu];omega
  ·refine uT (Ki z y hi O l _) ?_;simp![uu];omega
def OZ (z y:Str)(n:Nat):↑(occurrences z y 0 ↑z n)<=↑z+1:=by
 rw[Rr];have:=Ki z y ↑z n (GG 0 (↑z+1-0)) (#[],0);rw[Vq];refine uT this ?_;simp
nonrec def spG (z y:Str):oj Str:=if(decide (↑z<↑y)||decide (Vy z<Vy y))=v_ then [z] else if(occurrences z y 0 ↑z (↑z+1)).isEmpty=v_ then [z] else partsBetween z (occurrences z y 0 ↑z (↑z+1)) ↑y
def NR (z y:Str):↑(spG z y)<=↑z+2:=by
 unfold spG;have h:=OZ z y (↑z+1);split
 ·simp
 ·split
  ·simp
  ·simp![partsBetween,ud,List.length_zip,uu,uB,Hq];omega
variable {z:Str}
def NQ {y p:Str}(h:p∈spG z y):↑p<=↑z:=by
 unfold spG at h;split at h
 ·rw[vm] at h;subst h;exact uq _
 ·split at h
  ·rw[vm] at h;subst h;exact uq _
  ·simp![partsBetween,Ac] at h;erw[h,q,_,e];rw[<-e];exact strSub_length_le _ _ _
section
variable {X:Cx}
inductive Ob (x:V)(vs:List V)(H:Hp)(Q:VK):Prop
 |mk (z:_)(y:_)(_:x= .str z)(_:vs= [.str y])(_:0<↑y)(_:↑z<=1000)(_:∀p,H p=U_->Q (.ref p) (upd H p (.lst ((spG z y).map V.str))))
def D4:MtM X "str.split" Ob:=by
 exists 2,x,vs,v,us,Q,I,rx,rv,h;erw[h,z,y,rfl,rfl,hy,hz,q];erw[rx,t,rfl];erw[rv.one,u,rfl,t',rfl];have Z:↑z<=sizeLine:=by rw[uI];omega
 have O:(↑y==0)=false:=by simp;omega
 have one:spG z y= [z]->∀(T:Nat),0<T->EP X oq σ Q (.ref #[0,s]) {s with heap:=s.heap.push {cls:= .type "list",data:= .seq [Vu z t].toArray},toks:=T}:=λe T hT=>by
  rw[e] at q;exact J2 (ys:= [V.str z]) I (.cons (show ik (V.str z) _ from[t:1]) .nil) (by show 1<=V9;decide) q
 cases h1:(decide (↑z<↑y)||decide (Vy z<Vy y)) with
 |true=>
  refine vH vE (vL _ _ _) vy (vV _ _) (Fi z y t t' h1) ?_;exact one (by unfold spG;rw[A3 h1]) s.toks I.tk
 |false=>
  cases U:(occurrences z y 0 ↑z (↑z+1)).isEmpty with
  |true=>
   refine vH vE (vL _ _ _) vy (vV _ _) (Fa z y t t' h1 O U) ?_;exact one (by unfold spG;rw[A2 (by rw[h1];decide),A3 U]) s.toks I.tk
  |false=>
   have hl:=NR z y;have e:spG z y=partsBetween z (occurrences z y 0 ↑z (↑z+1)) ↑y:=by unfold spG;rw[A2 (by rw[h1];decide),A2 (by rw[U];decide)]
   rw[e] at q hl;refine vH vE (vL _ _ _) vy (vV _ _) (TX z y t t' h1 O U Z (by rw[uI];omega)) ?_
   exact J2 I (X5 _ _) (by rw[ud,uI];omega) q
inductive Aan (K:PySem.W.Frag)(x:V)(vs:List V)(H:Hp)(Q:VK):Prop
 |mk (sep:Str)(p:Addr)(l:List Str)(_:x= .str sep)(_:vs= [.ref p])(_:SqT K H p (l.map V.str))(_:(l.map (·.length)).sum+↑l*↑sep<=1000000)(_:Q (.str (Vf sep l)) H)
def Ly:MtM X "str.join" (Aan X.K):=by
 exists 2,x,vs,v,us,Q,I,rx,rv,h;erw[h,sep,p,l,rfl,rfl,hp,hz,q];erw[rx,t,rfl];erw[rv.one,u,rfl,ru];cases ru;erw[I.tuple hp,its,r,pl,hl];erw[XA r,ps,rfl,Z];have U:tooLong ((ps.map (·.1)).toArray.foldl (·+ ·.length+↑sep) 0)=false:=by
  rw[Z];have:=RD sep l;rw[this];unfold tooLong;refine ue ?_;rw[uI];omega
 refine vH F.slot_str_join (vL _ _ _) F.entry_str_join (F.args_str_join_2 _ _) (meets_str_join_tuple sep t p ps U) ⟨(let⟨o,h1,h2,n,h3⟩:=pl;⟨o,n,h1,h2,h3⟩),?_⟩;have O:(glued sep (ps.map (·.1))).length<=sizeLine:=Rz U
 match ps,Z,O with
 | [],Z,O=>
  subst Z;exact⟨O,.str _,H,I.tok _,⟨0⟩,q⟩
 | [a],Z,_=>
  subst Z;exact⟨.str _,H,I,[a.2:1],q⟩
 |a::b::r,Z,O=>
  subst Z;exists O,.str _,H,I.tok _,⟨0⟩;rw[Fb];exact q
def Aad:SlR X (λx lo hi H Q=>Ac7 x lo hi H Q∨Ach X.K x lo hi H Q):=Aac.or wG
end
end L2
namespace L2
open PySem PySem.Spec PyProof.Rows
open Builtin.Int (intBits)
section
variable {X:Cx}
inductive AdH (K:PySem.W.Frag)(w:World)(x:V)(y:V)(H:Hp)(Q:VK):Prop
 |mk (z:_)(a:_)(r:_)(_:x= .str z)(_:y= .ref a)(_:Ij K w a)(_:PySem.W.nsIn K a z=u_ r)(_:Q (.bl r.isSome) H)
def AaB:OpR X (Vj .In) (AdH X.K X.w):=by
 exists 2,x,y,v,u,Q,I,U,Z,h;erw[h,z,a,r,rfl,rfl,[hs,es,n,O,hk],hn,q];erw[U,t,rfl];cases Z;have hm:=PySem.W.mapOf_K (prog:=X.prog) (w:=X.w) I.kIn O hk;refine FL (V5 X.prog X.w z t) hs hm ⟨.bl r.isSome,H,I.tok _,?_,q⟩;rw[PySem.W.find_K O hn]
 rfl
end
end L2
namespace L2
open PySem PySem.Spec PyProof.Rows
mutual
noncomputable def nD:D->Bool
 | .non=>v_
 | .str _=>v_
 | .int _=>v_
 | .tup xs=>nL xs
 |_=>V6
noncomputable def nL:oj D->Bool
 | []=>v_
 |x::r=>nD x&&nL r
end
def DY:∀{xs:oj D}{j:Nat}{x:D},nL xs=v_->xs[j]? =u_ x->nD x=v_
 | [],_,_,_,e=>by simp at e
 |y::r,0,x,h,e=>by
  have h':nD y=v_/\nL r=true:=by simpa [nL] using h
  have:y=x:=by simpa using e
  exact this▸h'.1
 |y::r,j+1,x,h,e=>by
  have h':nD y=v_/\nL r=true:=by simpa [nL] using h
  exact DY h'.2 (by simpa using e)
mutual
noncomputable def eqN:D->D->Bool
 | .non,.non=>v_
 | .str a,.str b=>a==b
 | .int a,.int b=>a==b
 | .tup xs,.tup ys=>eqNL xs ys
 |_,_=>V6
noncomputable def eqNL:oj D->oj D->Bool
 | [],[]=>v_
 |x::r,y::q=>eqN x y&&eqNL r q
 |_,_=>V6
end
mutual
theorem Z6:∀{d e:D},nD d=v_->(eqN d e=v_↔d=e)
 | .non,e,_=>by cases e<;>simp[eqN]
 | .str a,e,_=>by cases e<;>simp[eqN]
 | .int a,e,_=>by cases e<;>simp[eqN]
 | .tup xs,.tup ys,h=>by
  have:=eqNL_iff (xs:=xs) (ys:=ys) (by simpa [nD] using h)
  simp![eqN,this,D.tup.injEq]
 | .tup xs,.non,_=>by simp[eqN]
 | .tup xs,.bl _,_=>by simp[eqN]
 | .tup xs,.int _,_=>by simp[eqN]
 | .tup xs,.str _,_=>by simp[eqN]
 | .tup xs,.lst,_=>by simp[eqN]
 | .tup xs,.dct,_=>by simp[eqN]
 | .bl _,_,h=>by simp[nD] at h
 | .lst,_,h=>by simp[nD] at h
 | .dct,_,h=>by simp[nD] at h
theorem eqNL_iff:∀{xs ys:oj D},nL xs=v_->(eqNL xs ys=v_↔xs=ys)
 | [],[],_=>by simp[eqNL]
 | [],_::_,_=>by simp[eqNL]
 |_::_,[],_=>by simp[eqNL]
 |x::r,y::q,h=>by
  have h':nD x=v_/\nL r=true:=by simpa [nL] using h
  simp![eqNL,uF,Z6 h'.1,eqNL_iff h'.2,UQ]
end
mutual
theorem Is.detN {H:Hp}:∀{d e:D}{v:V},nD d=v_->nD e=v_->Is H d v->Is H e v->d=e
 | .non,e,v,_,he,h1,h2=>by
  cases(show v= .non from h1)
  cases e with
  |non=>rfl
  |str b=>obtain⟨q,_⟩:=(show V.non=V.str b/\_ from h2);cases q
  |int b=>cases(show V.non=V.int b from h2)
  |tup ys=>erw[h2,p,us,q,_];cases q
  |_=>simp[nD] at he
 | .str a,e,v,_,he,h1,h2=>by
  obtain⟨rfl,_⟩:=(show v= .str a/\_ from h1)
  cases e with
  |non=>cases(show V.str a=V.non from h2)
  |str b=>obtain⟨q,_⟩:=(show V.str a=V.str b/\_ from h2);cases q;rfl
  |int b=>cases(show V.str a=V.int b from h2)
  |tup ys=>erw[h2,p,us,q,_];cases q
  |_=>simp[nD] at he
 | .int a,e,v,_,he,h1,h2=>by
  cases(show v= .int a from h1)
  cases e with
  |non=>cases(show V.int a=V.non from h2)
  |str b=>obtain⟨q,_⟩:=(show V.int a=V.str b/\_ from h2);cases q
  |int b=>cases(show V.int a=V.int b from h2);rfl
  |tup ys=>erw[h2,p,us,q,_];cases q
  |_=>simp[nD] at he
 | .tup xs,e,v,hd,he,h1,h2=>by
  erw[id h1,p,vs,rfl,Z,hl];cases e with
  |non=>cases(show V.ref p=V.non from h2)
  |str b=>obtain⟨q,_⟩:=(show V.ref p=V.str b/\_ from h2);cases q
  |int b=>cases(show V.ref p=V.int b from h2)
  |tup ys=>
   erw[h2,p',us,q,O,U];cases q;rw[Z] at O;cases O;rw[IsL.detN (by simpa [nD] using hd) (by simpa [nD] using he) hl U]
  |_=>simp[nD] at he
 | .bl _,_,_,hd,_,_,_=>by simp[nD] at hd
 | .lst,_,_,hd,_,_,_=>by simp[nD] at hd
 | .dct,_,_,hd,_,_,_=>by simp[nD] at hd
theorem IsL.detN {H:Hp}:∀{xs ys:oj D}{vs:oj V},nL xs=v_->nL ys=v_->IsL H xs vs->IsL H ys vs->xs=ys
 | [],[],_,_,_,_,_=>rfl
 | [],_::_,_,_,_,h1,h2=>by
  cases(show _= [] from h1)
  erw[h2,v,r,q,_];cases q
 |_::_,[],_,_,_,h1,h2=>by
  cases(show _= [] from h2)
  erw[h1,v,r,q,_];cases q
 |x::xs,y::ys,_,hd,he,h1,h2=>by
  erw[h1,v,r,rfl,Z,a2];erw[h2,v',r',q,b1,b2];cases q;have O:nD x=v_/\nL xs=true:=by simpa [nL] using hd
  have U:nD y=v_/\nL ys=true:=by simpa [nL] using he
  rw[Is.detN O.1 U.1 Z b1,IsL.detN O.2 U.2 a2 b2]
end
def KP:∀(xs ys:oj D),eqNL xs ys=((Vh (min ↑xs ↑ys)).all (λj=>eqN (xs.getD j .non) (ys.getD j .non))&&↑xs==↑ys)
 | [],[]=>by simp[eqNL]
 | [],_::_=>by simp[eqNL]
 |_::_,[]=>by simp[eqNL]
 |x::r,y::q=>by
  have O:=KP r q;rw[uu,uu,show min (↑r+1) (↑q+1)=min ↑r ↑q+1 by omega,T0,vv,Uq]
  have e:(Vh (min ↑r ↑q)).all ((λj=>eqN ((x::r).getD j .non) ((y::q).getD j .non))∘tL)=(Vh (min ↑r ↑q)).all λj=>eqN (r.getD j .non) (q.getD j .non):=by congr 1
  rw[e];have U:(↑r+1==↑q+1)=(↑r==↑q):=by rw[vJ];simp
  rw[U,Fv,<-O]
  rfl
section
variable {X:Cx}{oq:oj (o3×Obj)}{σ:St}{H:Hp}{s:o7}
variable {e:D}{A:oh}
def oT (I:#[I]){u:V}{b:o6}(U:nD e=v_)(h2:Is H e u)(O:ik u b)(Z:A.units<Vg):Vp A s .none b (eqN .non e):=by
 cases e with
 |non=>
  cases(show u= .non from h2)
  cases O;exact HK _
 |str y=>
  obtain⟨rfl,_⟩:=(show u= .str y/\_ from h2)
  erw[O,t2,rfl];exact rf _ _
 |int y=>
  cases(show u= .int y from h2)
  erw[O,t2,rfl];exact R6 _ _
 |tup ys=>
  erw[id h2,p,us,rfl,hp,hl];cases O;erw[I.tuple (.inl (.of hp)),its,_,q,_];exact pp q Z
 |_=>simp[nD] at U
variable {z:Str}
def EK (I:#[I]){t:Tok}{u:V}{b:o6}(U:nD e=v_)(h2:Is H e u)(O:ik u b)(Z:A.units<Vg):Vp A s (.str z t) b (eqN (.str z) e):=by
 cases e with
 |non=>
  cases(show u= .non from h2)
  cases O;exact rN _ _
 |str y=>
  obtain⟨rfl,_⟩:=(show u= .str y/\_ from h2)
  erw[O,t2,rfl];exact UO _ _ _ _
 |int y=>
  cases(show u= .int y from h2)
  erw[O,t2,rfl];exact UI _ _ _ _
 |tup ys=>
  erw[id h2,p,us,rfl,hp,hl];cases O;erw[I.tuple (.inl (.of hp)),its,_,q,_];exact Fy _ _ q Z
 |_=>simp[nD] at U
def oU (I:#[I]){z:Int}{t:Tok}{u:V}{b:o6}(U:nD e=v_)(h2:Is H e u)(O:ik u b)(Z:A.units<Vg):Vp A s (.int z t) b (eqN (.int z) e):=by
 cases e with
 |non=>
  cases(show u= .non from h2)
  cases O;exact Fg _ _
 |str y=>
  obtain⟨rfl,_⟩:=(show u= .str y/\_ from h2)
  erw[O,t2,rfl];exact UH _ _ _ _
 |int y=>
  cases(show u= .int y from h2)
  erw[O,t2,rfl];exact HW _ _ _ _
 |tup ys=>
  erw[id h2,p,us,rfl,hp,hl];cases O;erw[I.tuple (.inl (.of hp)),its,_,q,_];exact Rg _ _ q Z
 |_=>simp[nD] at U
def Dq {xs ys:oj D}{vs us:oj V}{its its':oj o6}{A:oh}(hd:nL xs=v_)(he:nL ys=v_)(hl:IsL H xs vs)(O:IsL H ys us)(rv:im vs its)(U:im us its')
  (ih:∀x∈xs,∀(e:D) (v u:V) (a b:o6),nD x=v_->nD e=v_->Is H x v->Is H e u->ik v a->ik u b->Vp A s a b (eqN x e)):
  ∀j (a1:j<its.toArray.size) (a2:j<its'.toArray.size),Vp A s its.toArray[j] its'.toArray[j] (eqN (xs.getD j .non) (ys.getD j .non)):=λj a1 a2=>by
 have l1:↑its=↑xs:=by rw[<-↑rv,↑hl]
 have l2:↑its'=↑ys:=by rw[<-↑U,↑O]
 have Z:j<↑xs:=by rw[<-l1];simpa using a1
 have j2:j<↑ys:=by rw[<-l2];simpa using a2
 obtain⟨v1,e1,i1⟩:=hl.get (i:=j) (d:=xs[j]) (by simp[Z])
 obtain⟨v2,e2,i2⟩:=O.get (i:=j) (d:=ys[j]) (by simp[j2])
 erw[rv.get e1,b1,f1,g1];erw[U.get e2,b2,f2,g2];have k1:its.toArray[j]=b1:=by
  have:=f1;rw[um (by rwa[l1])] at this
  simpa using this
 have k2:its'.toArray[j]=b2:=by
  have:=f2;rw[um (by rwa[l2])] at this
  simpa using this
 have d1:xs.getD j .non=xs[j]:=by simp[VW,Z]
 have d2:ys.getD j .non=ys[j]:=by simp[VW,j2]
 rw[k1,k2,d1,d2];exact ih _ (uO Z) _ _ _ _ _ (DY (j:=j) hd (by simp[Z])) (DY (j:=j) he (by simp[j2])) i1 i2 g1 g2
def EJ (I:#[I]){xs:oj D}{e:D}{v u:V}{a b:o6}{A:oh}(hd:nD (.tup xs)=v_)(he:nD e=v_)(h1:Is H (.tup xs) v)(h2:Is H e u)(r1:ik v a)(O:ik u b)(hu:A.units<Vg)
  (ih:∀x∈xs,∀(e:D) (v u:V) (a b:o6),nD x=v_->nD e=v_->Is H x v->Is H e u->ik v a->ik u b->Vp A.in1 s a b (eqN x e)):Vp A s a b (eqN (.tup xs) e):=by
 erw[id h1,p,vs,rfl,hp,hl];cases r1;erw[I.tuple (.inl (.of hp)),its,rv,q,_];cases e with
 |non=>
  cases(show u= .non from h2)
  cases O;exact pw q hu
 |str y=>
  obtain⟨rfl,_⟩:=(show u= .str y/\_ from h2)
  erw[O,t2,rfl];exact rE _ _ q hu
 |int y=>
  cases(show u= .int y from h2)
  erw[O,t2,rfl];exact rV _ _ q hu
 |tup ys=>
  by_cases hv:V.ref p=u
  ·have:=Is.detN (e:= .tup ys) hd he h1 (hv▸h2);subst hv;cases O;rw[<-this,(Z6 hd).mpr rfl];exact HK _
  ·erw[id h2,p',us,rfl,aa,U];cases O;erw[I.tuple (.inl (.of aa)),its',Z,q',_];have l1:↑its=↑xs:=by rw[<-↑rv,↑hl]
   have l2:↑its'=↑ys:=by rw[<-↑Z,↑U]
   have ac:=UU (e:=λj=>eqN (xs.getD j .non) (ys.getD j .non)) q q' hu (Dq (by simpa [nD] using hd) (by simpa [nD] using he) hl U rv Z ih)
   have e1:eqN (.tup xs) (.tup ys)=((Vh (min its.toArray.size its'.toArray.size)).all (λj=>eqN (xs.getD j .non) (ys.getD j .non))&&its.toArray.size==its'.toArray.size):=by
    rw[uz,uz,l1,l2,<-KP];simp![eqN]
   rw[e1];exact rC (λz=>hv (by rw[z])) ac
 |_=>simp[nD] at he
def Abe (I:#[I]):∀(n:Nat) (d e:D) (v u:V) (a b:o6) (A:oh),dp d<=n->nD d=v_->nD e=v_->Is H d v->Is H e u->ik v a->ik u b->A.units+n<Vg->Vp A s a b (eqN d e):=by
 intro n
 induction n with
 |zero=>
  intro d e v u a b A hn hd U h1 h2 Z r2 hu;cases d with
  |non=>
   cases(show v= .non from h1)
   cases Z;exact oT I U h2 r2 hu
  |int z=>
   cases(show v= .int z from h1)
   erw[Z,t,rfl];exact oU I U h2 r2 hu
  |str z=>simp[dp] at hn
  |tup xs=>simp[dp] at hn
  |_=>simp[nD] at hd
 |succ n ih=>
  intro d e v u a b A hn hd U h1 h2 Z r2 hu;have O:A.units<cLine:=Uj (V1 _ _) hu;cases d with
  |non=>
   cases(show v= .non from h1)
   cases Z;exact oT I U h2 r2 O
  |int z=>
   cases(show v= .int z from h1)
   erw[Z,t,rfl];exact oU I U h2 r2 O
  |str z=>
   obtain⟨rfl,_⟩:=(show v= .str z/\_ from h1)
   erw[Z,t,rfl];exact EK I U h2 r2 O
  |tup xs=>
   have hm:dpL xs<=n:=by
    have:dp (.tup xs)=1+dpL xs:=by simp![dp]
    omega
   exact EJ I hd U h1 h2 Z r2 O λx hx e v u a b k1 k2 k3 k4 k5 k6=>ih x e v u a b A.in1 ((wv xs).mp hm x hx) k1 k2 k3 k4 k5 k6 (by rw[uY];omega)
  |_=>simp[nD] at hd
inductive Aaq (g:Bool->Bool)(x:V)(y:V)(H:Hp)(Q:VK):Prop
 |mk (ds es:List D)(_:Is H (.tup ds) x)(_:Is H (.tup es) y)(_:nL ds=v_)(_:nL es=v_)(_:dpL ds<=60)(_:Q (.bl (g (eqNL ds es))) H)
variable {ds:oj D}{y:V}{u:o6}
def Ac6 (I:#[I]){es:oj D}{x:V}{v:o6}(h1:Is H (.tup ds) x)(h2:Is H (.tup es) y)(hn:nL ds=v_)(Z:nL es=v_)(hd:dpL ds<=60)(rx:ik x v)(ry:ik y u)(hu:X.A.units+64<Vg):
  rn X.A s v u (eqNL ds es)/\rZ X.A s v u (!eqNL ds es):=by
 erw[id h1,p,vs,rfl,hp,hl];erw[id h2,p',us,rfl,aa,O];cases rx;cases ry;erw[I.tuple (.inl (.of hp)),its,rv,q,_];erw[I.tuple (.inl (.of aa)),its',U,q',_];have l1:↑its=↑ds:=by rw[<-↑rv,↑hl]
 have l2:↑its'=↑es:=by rw[<-↑U,↑O]
 have pe:=Dq (A:=X.A.in1) hn Z hl O rv U λx hx e v u a b k1 k2 k3 k4 k5 k6=>Abe I 60 x e v u a b X.A.in1 ((wv ds).mp hd x hx) k1 k2 k3 k4 k5 k6 (by rw[uY];omega)
 have e1:=UU (e:=λj=>eqN (ds.getD j .non) (es.getD j .non)) q q' () pe
 have e2:=FW (e:=λj=>eqN (ds.getD j .non) (es.getD j .non)) q q' () pe
 rw[uz,uz,l1,l2,<-KP] at e1 e2;exact[e1:e2]
def xm (U:X.A.units+64<Vg):OpR X (Vj .Eq) (Aaq id):=by
 exists 2,x,y,v,u,Q,I,Z,ry,h;erw[h,ds,es,h1,h2,hn,O,hd,q];exact(Ac6 I h1 h2 hn O hd Z ry U).1 X.prog X.w X.xe _ ⟨.bl _,H,I,1,q⟩
def sM (U:X.A.units+64<Vg):OpR X (Vj .NotEq) (Aaq not):=by
 exists 2,x,y,v,u,Q,I,Z,ry,h;erw[h,ds,es,h1,h2,hn,O,hd,q];exact(Ac6 I h1 h2 hn O hd Z ry U).2 X.prog X.w X.xe _ ⟨.bl _,H,I,1,q⟩
end
structure FF (K:o0)(mg:Str->om o6)(x:Str)(st:Stmt)(ps:oj Str)(f:o3)(fd:V8):Prop where
 F:Fun K x x st f fd
 b:zU K fd ps []
 m:mg x=u_ (.ref f)
structure FM (K:o0)(C:o3)(x q:Str)(st:Stmt)(ps:oj Str)(f:o3)(fd:V8):Prop where
 F:Fun K x q st f fd
 b:zU K fd ps []
 h:AbO K C x f
nonrec def FZ (K:o0)(x q:Str)(st:Stmt)(f:o3):Prop:=∃(oc kV dc pm cd ct:o6) (od an:om o3) (sl:Array (om o6)),K.lookup f=u_ ⟨oc,od,.func (PySem.W.fnOf x q (YS st) (yP st) (qi st) .none kV dc pm an cd ct),sl⟩/\PySem.W.codeIn K cd q=v_/\PySem.W.keepIn K (.ref f)=v_
nonrec def FZg (K:o0)(x:Str)(st:Stmt)(f:o3):Prop:=PySem.W.nsIn K Vw x=u_ (u_ (.ref f))/\FZ K x x st f
nonrec def FZm (K:o0)(C:o3)(x q:Str)(st:Stmt)(f:o3):Prop:=PySem.W.findIn K (.ref C) x=u_ (u_ (.ref f))/\PySem.W.isFn K (.ref f)=v_/\FZ K x q st f
nonrec def BOk (x q:Str)(st:Stmt)(ps:oj Str):Prop:=∀(kV doc pm:o6) (an:om o3) (cdv ct:o6) (us:oj o6),↑us=↑ps->Gb (PySem.W.fnOf x q (YS st) (yP st) (qi st) .none kV doc pm an cdv ct) [us:[]]=pure (ps.zip us)
variable {K:o0}{h:o8}{mg:Str->om o6}{x:Str}{st:Stmt}{f:o3}
def Qj (X:K.In h)(G:h.Ns Vw mg)(z:FZg K x st f)(ps:oj Str)(O:BOk x x st ps):∃fd,FF K mg x st ps f fd:=by
 erw[z,a,oc,kV,dc,pm,U,ct,od,an,sl,l,c,k];have F:=ML (st:=st) l c k;exact⟨_,F,F.binds O,uV X G a⟩
variable {C:o3}
def yQ {q:Str}(z:FZm K C x q st f)(ps:oj Str)(O:BOk x q st ps):∃fd,FM K C x q st ps f fd:=by
 erw[z,a,i,oc,kV,dc,pm,U,ct,od,an,sl,l,c,k];have F:=ML (st:=st) l c k;exact⟨_,F,F.binds O,[a:i:k]⟩
def FF.law {ps:oj Str}{fd:V8}(T:FF K mg x st ps f fd){y:Str}(h:∀(kV doc pm:o6) (an:om o3) (cdv ct u:o6),Gb (PySem.W.fnOf x x (YS st) (yP st) (qi st) .none kV doc pm an cdv ct) [[u]:[]]=pure [(y,u)])(s:o7)(u:o6):GM s fd [[u]:[]] [(y,u)]:=by
 erw[T.F.ex,oc,od,kV,doc,pm,an,cdv,ct,osl,rfl,lk,O];exact .of_eq (h kV doc pm an cdv ct u)
nonrec def txt? (u:o6):om Str:=match u with
 | .str z _=>u_ z
 |_=>U_
nonrec def TZ (K:o0)(q:o3)(l:oj Str):Prop:=∃(d:om o3) (i:Array o6) (n:Nat) (sl:Array (om o6)),K.lookup q=u_ ⟨.type "tuple",d,.seq i n,sl⟩/\i.toList.map txt? =l.map u_
def zW:∀{l:oj Str}{us:oj o6},us.map txt? =l.map u_->im (l.map V.str) us
 | [],[],_=> .nil
 |z::l,u::us,h=>by
  rw[uC,uC] at h;injection h with h1 h2
  cases u with
  |str y t=>
   have:y=z:=uN h1;subst this;exact .cons [t:1] (zW h2)
  |_=>cases h1
 | [],_::_,h=>by simp at h
 |_::_,[],h=>by simp at h
variable {H:Hp}{q:o3}{l:oj Str}
def TZ.sq (h:TZ K q l)(Z:↑l<=100):SqT K H q (l.map V.str):=by
 erw[h,d,its,n,sl,U,e];have O:its.size=↑l:=by rw[<-Vq];simpa using A8 g_ e
 exact .inr ⟨_,its,n,U,1,1,by rw[O];exact UE (X2 ()),zW e⟩
nonrec def TZn (K:o0)(a:o3)(x:Str)(l:oj Str):Prop:=∃q,PySem.W.nsIn K a x=u_ (u_ (.ref q))/\TZ K q l
end L2
namespace L2
open PySem PyProof.Rows
variable {σ:St}{H:Hp}
def qC {t u:TS}{D:mU}(h:∀N:St->Hp->Prop,(∀O H',u D O H'->N O H')->t {D with nx:=N} σ H):nh t u D σ H:=h (u D) λ_ _ h=>h
mutual
noncomputable def hvD (h:o8):D->o6->Prop
 | .non,v=>v= .none
 | .str z,v=>∃t,v= .str z t
 | .tup ds,v=>∃a o items n,v= .ref a/\h.get? a=u_ o/\o.cls= .type "tuple"/\o.data= .seq items n/\hvL h ds items.toList
 |_,_=>False
noncomputable def hvL (h:o8):oj D->oj o6->Prop
 | [],vs=>vs= []
 |d::ds,vs=>∃v r,vs=v::r/\hvD h d v/\hvL h ds r
end
mutual
noncomputable def kD:D->Bool
 | .non=>v_
 | .str _=>v_
 | .tup xs=>kL xs
 |_=>V6
noncomputable def kL:oj D->Bool
 | []=>v_
 |x::r=>kD x&&kL r
end
mutual
theorem AbM:∀{d:D},kD d=v_->nD d=v_
 | .non,_=>by simp[nD]
 | .str _,_=>by simp[nD]
 | .tup xs,h=>by
  have:=kL_n (xs:=xs) (by simpa [kD] using h)
  simpa [nD] using this
 | .bl _,h=>by simp[kD] at h
 | .int _,h=>by simp[kD] at h
 | .lst,h=>by simp[kD] at h
 | .dct,h=>by simp[kD] at h
theorem kL_n:∀{xs:oj D},kL xs=v_->nL xs=v_
 | [],_=>by simp[nL]
 |x::r,h=>by
  have h':kD x=v_/\kL r=true:=by simpa [kL] using h
  simp[nL,AbM h'.1,kL_n h'.2]
end
section
variable {P:o9}{w:og}{A:oh}{E:o6->o7->Prop}{s:o7}
noncomputable abbrev y8 (led:Bool):Obj:={cls:= .type "set",dict:=U_,data:= .set #[] 0 (.fresh 0 0 led)}
end
end L2
namespace L2
open PySem PySem.Spec PyProof.Rows
section
variable {X:Cx}
inductive AdJ (x:V)(y:V)(H:Hp)(Q:VK):Prop
 |mk (d e:D)(_:Is H d x)(_:Is H e y)(_:kD d=v_)(_:kD e=v_)(_:dp d<=60)(_:Q (.bl (eqN d e)) H)
def Mq (hu:X.A.units+64<Vg):OpR X (Vj .Eq) AdJ:=by
 exists 2,x,y,v,u,Q,I,O,U,h;erw[h,d,e,h1,h2,k1,k2,hd,q];have Z:X.A.units<cLine:=by omega
 cases d with
 |non=>
  cases(show x= .non from h1)
  cases e with
  |non=>
   cases(show y= .non from h2)
   exact Qr oq s σ H .non .non v u Q I O U ⟨1,by simpa [eqN] using q⟩
  |str z=>
   obtain⟨rfl,_⟩:=(show y= .str z/\_ from h2)
   exact Qr oq s σ H .non (.str z) v u Q I O U ⟨1,by simpa [eqN] using q⟩
  |tup ys=>
   erw[id h2,p,us,rfl,hp,hl];cases O;cases U;erw[I.tuple (.inl (.of hp)),its,_,tq,_];exact RX tq Z X.prog X.w X.xe _ ⟨.bl V6,H,I,1,by simpa [eqN] using q⟩
  |_=>simp[kD] at k2
 |str z=>
  obtain⟨rfl,_⟩:=(show x= .str z/\_ from h1)
  cases e with
  |non=>
   cases(show y= .non from h2)
   exact Qr oq s σ H (.str z) .non v u Q I O U ⟨1,by simpa [eqN] using q⟩
  |str w=>
   obtain⟨rfl,_⟩:=(show y= .str w/\_ from h2)
   refine Qr oq s σ H (.str z) (.str w) v u Q I O U [1:?_];have e1:eqN (.str z) (.str w)=decide (V.str z=V.str w):=by
    simp![eqN];by_cases c:z=w
    ·subst c;simp
    ·simp[c]
   rwa[e1] at q
  |tup ys=>
   erw[id h2,p,us,rfl,hp,hl];erw[O,t,rfl];cases U;erw[I.tuple (.inl (.of hp)),its,_,tq,_];exact rm _ _ tq Z X.prog X.w X.xe _ ⟨.bl V6,H,I,1,by simpa [eqN] using q⟩
  |_=>simp[kD] at k2
 |tup xs=>
  cases e with
  |non=>
   erw[id h1,p,us,rfl,hp,hl];cases(show y= .non from h2)
   cases O;cases U;erw[I.tuple (.inl (.of hp)),its,_,tq,_];exact pQ tq Z X.prog X.w X.xe _ ⟨.bl V6,H,I,1,by simpa [eqN] using q⟩
  |str w=>
   erw[id h1,p,us,rfl,hp,hl];obtain⟨rfl,_⟩:=(show y= .str w/\_ from h2)
   cases O;erw[U,t,rfl];erw[I.tuple (.inl (.of hp)),its,_,tq,_];exact Fo _ _ tq Z X.prog X.w X.xe _ ⟨.bl V6,H,I,1,by simpa [eqN] using q⟩
  |tup ys=>
   refine xm hu oq s σ H x y v u Q I O U ⟨xs,ys,h1,h2,kL_n (by simpa [kD] using k1),kL_n (by simpa [kD] using k2),?_,by simpa [eqN] using q⟩
   have:dp (.tup xs)=1+dpL xs:=by simp![dp]
   omega
  |_=>simp[kD] at k2
 |_=>simp[kD] at k1
end
def BJ:Gj "set"=u_ (.type "set"):=by decide+kernel
end L2
namespace L2
open PySem PyProof.Rows
noncomputable abbrev SE:=Array (Int×o6)
nonrec def IT (es:SE)(ep:Nat)(t:VG):Obj:={cls:= .type "set",dict:=U_,data:= .set es ep t}
section
variable {P:o9}{w:og}{A:oh}{E:o6->o7->Prop}{s:o7}
variable {h:o8}{a:o3}{ep:Nat}
def Ml {es es':SE}{t t':VG}(O:h.get? a=u_ (IT es ep t)):(h.update a (TB es' t')).get? a=u_ (IT es' (ep+1) t'):=by
 have:=Hy (TB es' t') O (by rw[putSet_of es' t' rfl];rfl)
 rwa[putSet_of es' t' rfl] at this
def BQ {g:Bool->Sem Unit}(hg:∀(b:Bool) (s₁:o7) (Q':Unit->o7->Prop),Q' VH s₁->V7 (Vk P w) A (g b) Q' E s₁){a:o3}{es O:SE}{ep:Nat}{t U:VG}(ho:s.heap.get? a=u_ (IT es ep t))(aa:O.size<GZ){dm:Bool}{R:om Bool->o7->Prop}
  (h:∀(h':o8) (ad:Nat),Gr a s.heap h'->h'.get? a=u_ (IT (if(!dm&&U.tooFull)=v_ then((Vx U O (Vs O.size)).1,(Vx U O (Vs O.size)).2.1) else(O,U)).1 ad (if(!dm&&U.tooFull)=v_ then((Vx U O (Vs O.size)).1,(Vx U O (Vs O.size)).2.1) else(O,U)).2)->R (u_ v_) {s with heap:=h'}):
  V7 (Vk P w) A (do
    GP a O U
    if(!dm&&U.tooFull)=v_ then do
      g (Vx U O (Vs O.size)).2.2
      GP a (Vx U O (Vs O.size)).1 (Vx U O (Vs O.size)).2.1
      pure (u_ v_)
     else pure (u_ v_)) R E s:=by
 refine A4 (rK ho rfl ?_ (RA aa));have Z:=Ml (es':=O) (t':=U) ho;have ac:=UC s.heap a (TB O U);split
 ·rename_i hc
  simp![A3 hc] at h;have hp:=Re U O (Vs O.size);generalize ae:Vx U O (Vs O.size)=Rl at hp h⊢;erw[Rl,nb,u3,af];dsimp only at hp h⊢;have hsz:nb.size=O.size:=by rw[<-Vq,hp.length_eq,Vq]
  refine A4 (hg _ _ _ ?_);refine A4 (rK Z rfl ?_ (RA (by rwa[hsz])))
  exact Vb (h _ _ (ac.trans (UC _ a _)) (Ml Z))
 ·rename_i hc
  simp![A2 hc] at h;exact Vb (h _ _ ac Z)
nonrec def byT (w:og):Bool:=w.params.followText "set-order"
def C6 (a:o6){Q₁:o6->o7->Prop}(h:Q₁ (.ref #[0,s]) {s with heap:=s.heap.push (y8 (!byT w))}):
  VA (Vk P w) A (.call (.builtin "set.__new__") [[.type "set",a]:[]]) (wants Q₁ E) s:=by
 refine tJ ?_;show V7 _ A.in1 (do Rp "set.__new__" [[.type "set",a]:[]];again (.builtin "set.__new__" [[.type "set",a]:[]])) _ _ s
 refine A4 (HA (F.newCall_set_1 a) (Vb [V4 F.plain_set_new _:U3 F.entry_set_new ?_]));rw[vP F.plain_set_new _];unfold G6.«set.__new__» RY;have O:=sub_set_self;erw[s,U,g,d,tk,os];dsimp only
 wp_walk
 refine wpAny_askSetting (Vb ?_);dsimp only;simp![newObj];refine A4 (rG (Vb ?_));exact Vb h
end
def wm {xs:oj V}{us:oj o6}(r:im xs us):∀is:oj Nat,im (is.filterMap (xs[·]?)) (is.filterMap (us[·]?))
 | []=> .nil
 |i::is=>by
  rw[vQ,vQ];have U:=↑r;cases e:xs[i]? with
  |none=>
   have:us[i]? =none:=FK (by have:=List.getElem?_eq_none_iff.mp e;omega)
   rw[this];exact wm r is
  |some x=>
   erw[r.get e,u,O,g];rw[O];exact .cons g (wm r is)
end L2
namespace L2
open PySem PySem.Spec PyProof.Rows
nonrec def plF (t:VG):SetTable:={t with plain:=V6}
def Og (t:VG)(j:Nat):(t.put j).1.led=t.led:=rfl
def CL (t:VG)(n:Nat):(t.orStandIn n).led=t.led:=by
 unfold p9;split<;>rfl
def Pe (t:VG)(es:SE)(h:Int)(x:o6):(layNew t es h x).2.1.led=t.led:=by
 unfold layNew;cases t.freeSlot h with
 |none=>rfl
 |some p=>
  erw[p,a,b];dsimp only;rw[CL,Og]
def Dd (t:VG)(es:SE)(n:Nat):(Vx t es n).2.1.led=t.led/\(t.plain=V6->(Vx t es n).2.1.plain=V6):=by
 unfold Vx RW pf;cases pU (pc n-1) (es.map (·.1)) with
 |none=>exact[1:λ_=>rfl]
 |some O=>
  dsimp![bind,Option.bind,pure];split
  ·exact[1:λh=>h]
  ·exact[1:λ_=>rfl]
nonrec def LZ (P:o9)(w:og)(es:SE):Prop:=∀e∈es.toList,∃z t,e.2= .str z t/\e.1=(PySem.strKind P w).hash z
nonrec def zK (es:SE):oj Str:=es.toList.map λe=>strOf e.2
structure TOk (P:o9)(w:og)(es:SE)(t:VG):Prop where
 isS:LZ P w es
 fits:t.fits es.size=v_
 led:t.led= !byT w
 pl:1<=es.size->t.plain=V6
 nd:(zK es).Nodup
section
variable {P:o9}{w:og}{A:oh}{E:o6->o7->Prop}{s:o7}
def LZ.elems {es:SE}(h:LZ P w es):ElemsOf (PySem.strKind P w) es.toList:=λe U=>by
 erw[h e U,z,tk,O,Z];exact⟨⟨z,by rw[O];exact V5 _ _ _ _,Z⟩,by rw[O];rfl⟩
def CA:TOk P w #[] (.fresh 0 0 (!byT w)):=⟨λe O=>by simp at O,by cases byT w<;>rfl,1,λh=>by simp at h,by simp[zK]⟩
variable {z:Str}
def Bl {es:SE}(h:LZ P w es){e:Int×o6}(O:e∈es.toList):(PySem.strKind P w).is z e.2=decide (z=strOf e.2):=by
 erw[h e O,y,tk,U,_];rw[U];exact KeyKind.is_eq_decide (V5 P w y tk) z
def AcO {a:o3}{es:SE}{ep:Nat}{t:VG}{z:Str}{tk:Tok}{Q:Bool->o7->Prop}(ho:s.heap.get? a=u_ (IT es ep t))(U:TOk P w es t)(hb:es.size+1<GZ)
  (q:∀(h':o8) (es':SE) (Z:Nat) (t':VG) (b:Bool),Gr a s.heap h'->h'.get? a=u_ (IT es' Z t')->TOk P w es' t'->es'.size<=es.size+1->(∀y,y∈zK es'↔y∈zK es∨y=z)->Q b {s with heap:=h'}):
  V7 (Vk P w) A (Ry a (.str z tk) ((PySem.strKind P w).hash z)) Q E s:=by
 have ah:(PySem.strKind P w).is z (.str z tk)=true:=V5 _ _ _ _;unfold Ry setAddHashedIn;refine VD (A4 (wpAny_setState_of ho rfl U.fits ?_));dsimp only;rw[byScan_of (knd:=PySem.strKind P w) rfl () U.isS.elems]
 simp![↓reduceIte];unfold setAddByScan;refine A4 ?_;refine A4 (Uu ?_);refine A4 (wpAny_setScan_of (knd:=PySem.strKind P w) (adding:=v_) ah ho rfl U.fits U.isS.elems ?_);cases hr:List.findIdx? (λe=>(PySem.strKind P w).is z e.2) es.toList with
 |some j=>
  dsimp only;erw[List.findIdx?_eq_some_iff_getElem.mp hr,hj,ak,_];refine Vb (Vb (q s.heap es ep t V6 (RU a s.heap) ho U (Gm _) λy=>[.inl:λh=>h.elim id λe=>?_]));rw[e];rw[Bl U.isS (uO hj)] at ak;exact Ac.mpr [_:uO hj:(uw ak).symm]
 |none=>
  dsimp only;have aq:z∉zK es:=λhm=>by
   erw[Ac.mp hm,e,he,e2];have:=List.findIdx?_eq_none_iff.mp hr e he;rw[Bl U.isS he,e2] at this;simp at this
  have al:∀(b:Bool) {s₁:o7}{Q':Unit->o7->Prop},Q' VH s₁->V7 (Vk P w) A (match b with|true=>rule "set.scan.the-table-gave-way"|false=>pure VH) Q' E s₁:=λb s₁ Q' hq=>by cases b<;>first|exact Vb hq|exact Uu hq
  have aa:=layNew_perm t es ((PySem.strKind P w).hash z) (.str z tk);have ae:=layNew_fits t es ((PySem.strKind P w).hash z) (.str z tk);have ac:=Pe t es ((PySem.strKind P w).hash z) (.str z tk);generalize layNew t es ((PySem.strKind P w).hash z) (.str z tk)=L at aa ae ac⊢;erw[L,O,t1,dm,gv];dsimp only at aa ae ac⊢;have hsz:O.size=es.size+1:=by
   rw[<-Vq,aa.length_eq,tS,uB,Vq]
   rfl
  have au:O.size<scanBound:=by omega
  have iK:∀(nb:SE) (t':VG),Td nb.toList O.toList->t'.fits nb.size=v_->t'.led=t.led->t'.plain=V6->TOk P w nb t'/\nb.size<=es.size+1/\∀y,y∈zK nb↔y∈zK es∨y=z:=by
   intro nb t' hp hf hl af;have ag:Td nb.toList (es.toList++ [((PySem.strKind P w).hash z,.str z tk)]):=by
    rw[<-tS];exact hp.trans aa
   have am:Td (zK nb) (zK es++ [z]):=by
    have:=ag.map λe=>strOf e.2;rwa[uD] at this
   exists ⟨λe he=>?_,hf,hl.trans U.led,λ_=>af,?_⟩,?_,λy=>?_
   ·rcases Ab.mp (ag.mem_iff.mp he) with he|he
    ·exact U.isS e he
    ·cases Aa.mp he;exact⟨z,tk,1,1⟩
   ·refine am.nodup_iff.mpr (List.nodup_append.mpr ⟨U.nd,by simp,λx hx y hy=>?_⟩)
    rw[vm] at hy;exact λe=>aq (by rwa[<-hy,<-e])
   ·rw[<-Vq,ag.length_eq,uB,Vq];exact uq _
   ·rw[am.mem_iff,Ab,vm]
  have ao:V7 (Vk P w) A (do
    GP a O (plF t1)
    if(!dm&&(plF t1).tooFull)=v_ then do
      (match(Vx (plF t1) O (Vs O.size)).2.2 with|true=>rule "set.scan.the-table-gave-way"|false=>pure VH)
      GP a (Vx (plF t1) O (Vs O.size)).1 (Vx (plF t1) O (Vs O.size)).2.1
      pure (u_ v_)
     else pure (u_ v_)) (λr s'=>∃h',r=u_ v_/\s'={s with heap:=h'}/\∀b,Q b {s with heap:=h'}) E s:=by
   refine BQ (g:=λb=>match b with|true=>rule "set.scan.the-table-gave-way"|false=>pure VH) (es:=es) (λb s₁ Q' hq=>al b hq) ho au λh' Z ap ad=>⟨h',1,1,λb=>?_⟩
   by_cases hc:(!dm&&(plF t1).tooFull)=v_
   ·simp![A3 hc] at ad;erw[Dd (plF t1) O (Vs O.size),l1,l2];erw[iK _ _ (Re (plF t1) O (Vs O.size)) (relayAll_fits (plF t1) O (Vs O.size)) (l1.trans ac) (l2 rfl),g1,g2,g3];exact q h' _ Z _ b ap ad g1 g2 g3
   ·simp![A2 hc] at ad;erw[iK O (plF t1) (pT _) ae ac rfl,g1,g2,g3];exact q h' _ Z _ b ap ad g1 g2 g3
  refine A4 (al _ ?_);have fin:∀t2,t2=plF t1->V7 (Vk P w) A (do
    GP a O t2
    if(!dm&&t2.tooFull)=v_ then do
      (match(Vx t2 O (Vs O.size)).2.2 with|true=>rule "set.scan.the-table-gave-way"|false=>pure VH)
      GP a (Vx t2 O (Vs O.size)).1 (Vx t2 O (Vs O.size)).2.1
      pure (u_ v_)
     else pure (u_ v_)) (λr s'=>∃h',r=u_ v_/\s'={s with heap:=h'}/\∀b,Q b {s with heap:=h'}) E s:=λt2 e=>by rwa[e]
  split
  ·refine A4 ?_;rw[hashByValue_scannable 8 (show Value.scannable (.str z tk)=v_ from rfl)]
   refine Vb ?_;refine vD (fin (if plainKind (.str z tk)=v_ then t1 else{t1 with plain:=V6}) rfl) ?_ λ_ _ e=>e
   rintro r s' ⟨h',rfl,rfl,hq⟩;exact Vb (hq _)
  ·rename_i af
   refine A4 (Vb ?_);have e2:t1=plF t1:=by
    cases t1;simp![plF,R_,true_and]
    simpa using af
   refine vD (fin (if v_=v_ then t1 else{t1 with plain:=V6}) (by rwa[A3 rfl])) ?_ λ_ _ e=>e
   rintro r s' ⟨h',rfl,rfl,hq⟩;exact Vb (hq _)
end
nonrec def TxS (P:o9)(w:og)(h:o8)(a:o3)(ls:oj Str):Prop:=∃es ep t,h.get? a=u_ (IT es ep t)/\TOk P w es t/\es.size<=↑ls/\∀y,y∈zK es↔y∈ls
variable {w:og}{h h':o8}{a:o3}{ls:oj Str}
def TxS.to {P:o9}(x:TxS P w h a ls)(k:∀o,h.get? a=u_ o->h'.get? a=u_ o):TxS P w h' a ls:=let⟨es,ep,t,e,r⟩:=x;⟨es,ep,t,k _ e,r⟩
section
variable {prog:o9}{w:og}{A:oh}{R:G7->o7->Prop}{I:o3}{fp wr:oj o3}{G:Array Hj->Array Hj->Prop}{n:Nat}{Pp:Nat->o6->Prop}{St:Nat->o7->Prop}
def AaU (W:WalksS prog w A.in1 I fp wr G n Pp St)(Z:∀i v,Pp i v->∃z t,ls[i]? =u_ z/\v= .str z t)(S:o3)(aa:S∉fp)(hn:n=↑ls)(U:n+1<GZ):
  ∀(k i:Nat) (s:o7),n-i=k->i<=n->St i s->TxS prog w s.heap S (ls.take i)->
   (∀s',Moved (S::wr) G s s'->TxS prog w s'.heap S ls->R (.ok (.ret .none)) s')->
   VA #[w,w] A (.builtin "set.update.loop" [[.ref S,.ref I]:[]]) R s:=by
 have ac:S∉wr:=λh=>aa (W.sub _ h);have inS:∀b∈wr,b∈S::wr:=λb U=>ui _ U;intro k
 induction k with
 |zero=>
  intro i s hk hi O hS hR;have al:i=n:=by omega
  subst al;refine U3 F.entry_set_update_loop ?_;rw[vP UR _];show V7 _ A.in1 (VM (.ref I)>>=_) _ _ s;refine A4 (W.done s _ _ O λs' hm=>?_);show V7 _ A.in1 (ret VF) _ _ s';rw[hn,Uc] at hS;exact Vb (hR s' (hm.mono inS) (hS.to λo e=>hm.heap S _ ac e))
 |succ k ih=>
  intro i s hk hi O hS hR;have ad:i<n:=by omega
  refine U3 F.entry_set_update_loop ?_;rw[vP UR _];show V7 _ A.in1 (VM (.ref I)>>=_) _ _ s;refine A4 (W.item i s _ _ ad O λv s' hP ae hm=>?_);erw[Z i v hP,z,t,hz,rfl];obtain⟨es,ep,tb,e1,e2,e3,e4⟩:=hS.to λo e=>hm.heap S _ ac e;show V7 _ A.in1 (gV [Vu z t] (setAdd S (.str z t))>>=_) _ _ s';refine A4 (VD ?_);unfold setAdd;refine VD ?_;refine A4 ((PySem.strKind prog w).pyHash (k:=z) (V5 _ _ _ _) ?_);have hl:es.size<=i:=uT e3 (by rw[vM];omega)
  refine AcO (s:={s' with toks:=s'.toks+1}) e1 e2 () λh' es' am ao b af ap aq au ag=>?_
  have et:ls.take (i+1)=ls.take i++ [z]:=by rw[vx,hz];rfl
  have aw:TxS prog w h' S (ls.take (i+1)):=⟨es',am,ao,ap,aq,by rw[et,uB];exact uT au (tP e3),λy=>by rw[ag y,e4 y,et,Ab,vm]⟩
  refine Vb [V4 UR _:ih (i+1) _ () ad (W.frame _ s' _ _ ae (Gm _) λb U o e=>?_) aw λax ah ak=>?_]
  ·rw[af.2 b (λh:b=S=>aa (by rwa[<-h]))];exact e
  ·refine hR ax (Moved.trans W.gtrans ((hm.mono inS).then_heap (Gm _) λb o U e=>?_) ah) ak;rw[af.2 b (λh:b=S=>U (by rw[h];exact uj))];exact e
end
section
variable {P:o9}{w:og}{A:oh}{E:o6->o7->Prop}{s:o7}
def CH:∀{vs:oj o6}{ls:oj Str},Gy vs ls->∀(i:Nat) (v:o6),vs[i]? =u_ v->∃z t,ls[i]? =u_ z/\v= .str z t
 |_,_,.nil,i,v,h=>by simp at h
 |_,_,.cons x t r,0,v,h=>by cases h;exact⟨x,t,1,1⟩
 |_,_,.cons x t r,i+1,v,h=>CH r i v (by simpa using h)
def Iy {vs:oj o6}(h:Gy vs ls):↑vs=↑ls:=by rw[<-h.strs,ud]
end
nonrec def gT (P:o9)(w:og)(a:o3)(ls:oj Str):HO:= .ext λh=>TxS P w h a ls
variable {H:Hp}
def AcH {P:o9}(n:TxS P w h a ls):yf P w H h a (gT P w a ls):=⟨n,let⟨_,_,_,e,_⟩:=n;[_:e],λ_ _ n k=>n.to k⟩
section
variable {X:Cx}{oq:oj (o3×Obj)}{σ:St}{H:Hp}{s:o7}{d:o3}
def Cz {prog:o9}{w:og}{A:oh}{E:o6->o7->Prop}{r:o3}{Q:o6->o7->Prop}{G:oj o6->o7->Prop}(Z:s.TypeIs (.ref r) "dict")
  (U:∀(R:oj o6->o7->Prop) (E':o6->o7->Prop),(∀vs s',G vs s'->R vs s')->V7 #[w,w] A.in1.in1 (collect (.ref r)) R E' s)
  (hQ:∀vs s',G vs s'->↑vs<=V9/\Q (.ref #[0,s']) {s' with heap:=s'.heap.push {cls:= .type "tuple",data:= .seq vs.toArray}}):
  V7 #[w,w] A (call (.type "tuple") [.ref r]) Q E s:=by
 have new:VA #[w,w] A.in1 (.call (.builtin "tuple.__new__") ⟨[.type "tuple",.ref r],[]⟩) (wants (λobj O=>O.TypeIs obj "tuple"/\Q obj O) E) s:=by
  refine tJ ?_;show V7 _ A.in1.in1 (do Rp "tuple.__new__" [[.type "tuple",.ref r]:[]];again (.builtin "tuple.__new__" [[.type "tuple",.ref r]:[]])) _ _ s
  refine A4 (HA (PySem.F.newCall_tuple_1 _) (Vb [V4 PySem.F.plain_tuple_new _:U3 PySem.F.entry_tuple_new ?_]));rw[vP PySem.F.plain_tuple_new _];have s1:=sub_tuple_self;have s2:=init_tuple_lookup;have s3:=madeHere_tuple
  wp_walk using Gf Z,U
  intro vs s' hg;erw[hQ vs s' hg,hl,hq];show V7 _ _ (GF vs.toArray>>=λv=>ret v) _ _ _;unfold GF;refine A4 (vo ?_ (by show vs.toArray.size<=V9;simpa using hl))
  exact Vb [[_:uJ _ rfl:1]:hq]
 refine rM (Q₁:=λobj O=>O.TypeIs obj "tuple"/\Q obj O) PySem.F.called_tuple (PySem.F.typeCall_tuple_1 _) PySem.F.entry_object_init new λobj O h₁=>?_;exact[h₁.1:PySem.F.args_object_init_2 obj _:object_init_meets PySem.F.called_tuple.init.lookup PySem.F.called_tuple.made () prog w A.in1 _ O [h₁.1:1:h₁.2]]
end
section
variable {X:Cx}
def Ap (hc:X.calm=v_):Yt X (.type "tuple") (λxs H Q=>∃(d:o3) (kvs:oj (Key×V)),xs= [.ref d]/\Rd H d (.dK kvs)/\∀t,H t=U_->Q (.ref t) (upd H t (.tup (kvs.map λp=>kV p.1)))):=by
 exists 2,xs,us,Q,I,r,h;erw[h,d,kvs,rfl,hd,q];erw[Jw r,u,rfl,ru];cases ru;erw[Kx I.hok hd,hz,lo,vs,Z,dd];erw[id dd,o,es,ep,ho];have ac:s.heap.DictAt (Qu X.prog X.w) d vs ep:=[o:es:ho];refine uZ (n:=1) I.tk ?_;refine Cz (G:=λus s'=>∃(h':o8) (tk:Nat) (O:Array o6),us=O.toList/\s'={s with heap:=h',toks:=tk}/\(∀b o,s.heap.get? b=u_ o->h'.get? b=u_ o)/\ItemsOf (λi v=>∃k x,vs[i]? =u_ (k,x)/\(Qu X.prog X.w).is k v=v_) O ↑vs) dd.typeIs
  (λR E' k=>PySem.W.kdu_collect (A:=X.A.in1.in1) (PySem.W.kdl_dict lo) (I.ok.hd hc) ac (by rwa[<-↑Z]) λh' tk O aa U=>k _ _ ⟨h',tk,O,1,1,aa,U⟩) ?_
 rintro us s' ⟨h',tk,O,rfl,rfl,aa,U⟩;have ad:↑O.toList=↑vs:=by rw[Vq,U.1]
 have ae:=↑Z;exists (),λhtk=>?_
 have I':Inv X oq σ H {s with heap:=h',toks:=tk}:=I.kept aa htk
 have hv:im (kvs.map λp=>kV p.1) O.toList:=by
  refine kX (by rw[ud];omega) λj x v hx hv=>?_
  rw[uM] at hx;cases hj:kvs[j]? with
  |none=>rw[hj] at hx;cases hx
  |some p=>
   rw[hj] at hx;cases hx;obtain⟨k,y,e1,e2⟩:=U.2 j v (by rwa[<-Up])
   have e3:=(oo Z hj e1).1;show ik (kV p.1) v;rw[e3];exact MB e2
 refine⟨.ref h'.objs.size,_,I'.laid (t':=tk) (o:= .tup (kvs.map λp=>kV p.1)) (λb u w=>uh _ w) (uq _) ⟨by rwa[ud],O.toList,hv,⟨_,uJ _ rfl,1,0⟩⟩ htk,1,q _ (I'.hok.fresh (uq _))⟩
end
section
variable {x q:Str}{st:Stmt}{a b c d:Str}
def bo1 (h:∀(kV doc pm:o6) (an:om o3) (cdv ct u:o6),Gb (PySem.W.fnOf x q (YS st) (yP st) (qi st) .none kV doc pm an cdv ct) [[u]:[]]=pure [(a,u)]):BOk x q st [a]:=by
 intro k1 k2 k3 U k5 Z us O;rcases us with _|⟨u,_|⟨_,_⟩⟩
 ·cases O
 ·exact h k1 k2 k3 U k5 Z u
 ·cases O
def bo2 (h:∀(kV doc pm:o6) (an:om o3) (cdv ct u v:o6),Gb (PySem.W.fnOf x q (YS st) (yP st) (qi st) .none kV doc pm an cdv ct) [[u,v]:[]]=pure [(a,u),(b,v)]):BOk x q st [a,b]:=by
 intro k1 k2 k3 U k5 Z us O;rcases us with _|⟨u,_|⟨v,_|⟨_,_⟩⟩⟩
 ·cases O
 ·cases O
 ·exact h k1 k2 k3 U k5 Z u v
 ·cases O
def bo3 (h:∀(kV doc pm:o6) (an:om o3) (cdv ct u v w:o6),Gb (PySem.W.fnOf x q (YS st) (yP st) (qi st) .none kV doc pm an cdv ct) [[u,v,w]:[]]=pure [(a,u),(b,v),(c,w)]):BOk x q st [a,b,c]:=by
 intro k1 k2 k3 U k5 Z us O;rcases us with _|⟨u,_|⟨v,_|⟨w,_|⟨_,_⟩⟩⟩⟩
 ·cases O
 ·cases O
 ·cases O
 ·exact h k1 k2 k3 U k5 Z u v w
 ·cases O
def bo4 (h:∀(kV doc pm:o6) (an:om o3) (cdv ct u v w z:o6),Gb (PySem.W.fnOf x q (YS st) (yP st) (qi st) .none kV doc pm an cdv ct) [[u,v,w,z]:[]]=pure [(a,u),(b,v),(c,w),(d,z)]):BOk x q st [a,b,c,d]:=by
 intro k1 k2 k3 U k5 Z us O;rcases us with _|⟨u,_|⟨v,_|⟨w,_|⟨z,_|⟨_,_⟩⟩⟩⟩⟩
 ·cases O
 ·cases O
 ·cases O
 ·cases O
 ·exact h k1 k2 k3 U k5 Z u v w z
 ·cases O
end
section
variable {X:Cx}
inductive Abz (K:PySem.W.Frag)(Q:VK)(x:V)(y:V)(H3:Hp):Prop
 |mk (k:Int)(_:y= .int k)(_:k≠0)(a:_)(xs:_)(_:x= .ref a)(_:SqL K H3 a xs)(_:∀ys p,↑ys<=↑xs->(∀y∈ys,y∈xs)->H3 p=U_->Q (.ref p) (upd H3 p (.lst ys)))
nonrec def AbZ (K:o0)(te:TE)(tl:TO)(tf:TE):TE:=λσ H Q=>te σ H λx H1=>tl σ H1 λ_ H2=>tf σ H2 λy H3=>Abz K Q x y H3
def Dm {e f:Expr}{te tf:TE}{lo:om Expr}{tl:TO}{pos p2}(he:PE X e te)(hl:PO X lo tl)(hf:PE X f tf)(U:Hk (.Slice lo U_ (u_ f) p2) V6=λv u=>HE [v,u] (VO v u)):PE X (.Subscript e (.Slice lo U_ (u_ f) p2) pos) (AbZ X.K te tl tf):=by
 exists 2,Q,I,h;refine HR (thn (he oq s σ H _ I h) λv s1 zq=>?_);erw[zq,x,H1,I1,r1,q1];refine rL (thn (hl oq s1 σ H1 _ I1 q1) λvl s2 zq=>?_);erw[zq,lv,H2,I2,pl,q2];rw[tI];refine Vb ?_;rw[Rq];refine thn (hf oq s2 σ H2 _ I2 q2) λu O h3=>?_;erw[h3,y,H3,I3,r3,k,rfl,hk,a,xs,rfl,hH,q];erw[r3,tk,rfl];cases r1;have I4:Inv X oq σ H3 {O with heap:=O.heap.push {cls:= .type "slice",data:= .fields #[vl,.none,.int k tk]}}:=I3.kept (t':=O.toks) λb ob q=>uh _ q
 erw[I4.list hH,its,r,Z,hz];have aa:its.toArray.size=↑xs:=by rw[uz];exact r.length.symm
 show V7 #[X,X] X.A (HF e (.Slice lo U_ (u_ f) p2) (.ref a) (.ref #[0,O])) (EP X oq σ Q) X.xe {O with heap:=O.heap.push {cls:= .type "slice",data:= .fields #[vl,.none,.int k tk]}}
 refine HS (ops:= [.ref a,.ref #[0,O]]) Z.isList.typeIs slot_list_getitem.lookup ?_ (by rw[U])
 refine Fe (st:=u_ k) Z.isList (R7 ..) pl .none (.int k tk) (by simpa using hk) ?_ (by rwa[aa])
 have hsz:=slicePick_size_le its.toArray lv U_ (u_ k);unfold Tj at hsz⊢;generalize sliceRange (VR lv U_ (u_ k) its.toArray.size).1 (VR lv U_ (u_ k) its.toArray.size).2.1 (VR lv U_ (u_ k) its.toArray.size).2.2=is at hsz⊢;have ep:is.filterMap (its.toArray[·]?)=is.filterMap (its[·]?):=by simp
 rw[ep] at hsz⊢;have vp:=wm r is;have ac:(is.filterMap (xs[·]?)).length<=↑xs:=by
  rw[↑vp];rwa[uz,uz,<-↑r] at hsz
 exists .ref _,_,I4.laid (t':=O.toks) (o:= .lst (is.filterMap (xs[·]?))) (λb ob q=>uh _ q) (uq _) ⟨uT ac hz,_,(0),vp,uJ _ rfl⟩,1,q _ _ ac (λy hy=>?_) (I4.hok.fresh (uq _));erw[List.mem_filterMap.mp hy,i,_,hi];exact vj hi
inductive Oe (K:PySem.W.Frag)(x:V)(vs:List V)(H:Hp)(Q:VK):Prop
 |mk (p:Addr)(zs:List Str)(z:Str)(j:Nat)(_:x= .ref p)(_:vs= [.str z])(_:SqL K H p (zs.map V.str))(_:zs[j]? =u_ z)(_:(∀m,m<j->zs[m]? ≠u_ z))(_:↑zs<=100000)(_:Q (.int (j:Int)) H)
def D5:MtM X "list.index" (Oe X.K):=by
 exists 2,x,vs,v,us,Q,I,rx,rv,h;erw[h,p,zs,z,j,rfl,rfl,hp,O,hm,hz,q];cases rx;erw[rv.one,u,rfl,ru];erw[ru,t,rfl];erw[I.list hp,its,r,pl,hl];erw[XA r,ps,rfl,rfl];erw[id pl.isList,[cls,dd,data,sl],ho,hc,n,hd];simp only at hc hd;subst hc hd;have U:hX ps=ps.map λp=>Vu p.1 p.2:=rfl;rw[uM] at O;have Z:j<↑ps:=by
  cases e:ps[j]? with
  |none=>rw[e] at O;cases O
  |some y=>exact(Ae.mp e).1
 rw[ud] at hz;have at_:∀m (hm:m<(hX ps).toArray.size),(hX ps).toArray[m]= .str (ps[m]'(by simpa [U] using hm)).1 (ps[m]'(by simpa [U] using hm)).2:=λm hm=>by simp[U]
 refine vH F.slot_list_index [_:ho:1] F.entry_list_index (F.args_list_index_2 _ _) (SeqAt.list_indexAt p (hX ps).toArray n dd sl (.str z t) (λy=>match y with| .str c _=>c==z|_=>V6) j (by simpa [U] using Z) () ?_ ?_) [ho:λy hy=>?_:?_]
 ·rw[at_];rw[um Z] at O;have:ps[j].1=z:=uN O;simp[this]
 ·intro m ad aa;rw[at_];have ac:m<↑ps:=by omega
  have:=hm m aa;rw[uM,um ac] at this;have h3:ps[m].1≠z:=λe=>this (A8 u_ e);simp[h3]
 ·obtain⟨c,_,rfl⟩:=Ac.mp (show y∈ps.map λp=>Vu p.1 p.2 by simpa [U] using hy)
  exact UO _ _ _ _
 ·exact⟨.int (j:Int),H,I.tok _,[s.toks:1],q⟩
end
end L2
namespace L2
open PySem PyProof.Rows
nonrec def cl {α β:Type}(t:α->β->TS)(a:α)(b:β):TS:=t a b
section
variable {α β:Type}{t u:α->β->TS}{c:α->β->TT}{wi:α->β->TI}{g:α->β->TG}{a:α}{b:β}{D:mU}{σ:St}{H:Hp}
def cl_i (h:let S:St:=σ;let D1:mU:=D;cl t a b D1 S H):t a b D σ H:=h
def seq_oC (h:let S:St:=σ;let D1:mU:=D;∀N:St->Hp->Prop,(∀O H',cl u a b D1 O H'->N O H')->let E:mU:={D1 with nx:=N};cl t a b E S H):cl (λx y=>nh (t x y) (u x y)) a b D σ H:=h (u a b D) λ_ _ h=>h
def seq_0 (h:let S:St:=σ;let D1:mU:=D;let E:mU:={D1 with nx:=cl u a b D1};cl t a b E S H):cl (λx y=>nh (t x y) (u x y)) a b D σ H:=h
def if_C (h:let S:St:=σ;let D1:mU:=D;c a b S H λk H1=>if k=v_ then cl t a b D1 S H1 else cl u a b D1 S H1):cl (λx y=>Ac2 (c x y) (t x y) (u x y)) a b D σ H:=h
def while_C (h:let S:St:=σ;let D1:mU:=D;∃W:Nat->St->Hp->Prop,(∃m,W m S H)/\∀m σ H,W m σ H->
 c a b σ H λk H1=>if k=v_ then∃N:St->Hp->Prop,(∀O H',N O H'->∃U,U<m/\W U O H')/\cl t a b {D1 with nx:=N,ct:=N,bk:=D1.nx} σ H1 else D1.nx σ H1):cl (λx y=>Mb (c x y) (t x y)) a b D σ H:=h
def for_C (h:let S:St:=σ;let D1:mU:=D;wi a b S H λJ H1=>∃W:Nat->Nat->St->Hp->Prop,(∃m,W 0 m S H1)/\∀i m σ H,W i m σ H->
 (J.stop i H/\D1.nx σ H)∨(J.go i H/\∃N:St->Hp->Prop,(∀O H',N O H'->∃U,U<m/\W (i+1) U O H')/\∀x H',J.yld i H x H'->g a b x σ H' λZ H2=>cl t a b {D1 with nx:=N,ct:=N,bk:=D1.nx} Z H2)):cl (λx y=>Ac3 (wi x y) (g x y) (t x y)) a b D σ H:=h
end
end L2
namespace L2
open PySem PySem.Spec PySem.W PyProof.Rows
variable {i:Nat}{v:V}{σ:St}{H:Hp}
def gN_ {Q:St->Hp->Prop}(h:Q (σ.set i (u_ v)) H):YY i v σ H Q:=h
end L2
namespace L2
open PySem PySem.Spec PyProof.Rows
section
variable {P:o9}{w:og}{A:oh}{E:o6->o7->Prop}{s:o7}
def Ace {l:o3}{items:Array o6}{ls:oj Str}{Q:o6->o7->Prop}(hh:A.handled=U_)(hl:s.heap.IsTuple l items)(hS:Gy items.toList ls)(hz:items.size+1<GZ)
  (q:∀(h':o8) (tk:Nat),(∀b o,s.heap.get? b=u_ o->h'.get? b=u_ o)->TxS P w h' #[0,s] ls->s.toks<=tk->Q (.ref #[0,s]) {s with heap:=h',toks:=tk}):V7 (Vk P w) A (call (.type "set") [.ref l]) Q E s:=by
 erw[F.called_set.mro,c,tl,ax];have made:=F.called_set.made;have ay:=F.called_set.sub;refine Hw (tJ ?_);show V7 _ _ (callAny (.type "set") _) _ _ _;refine Vb [Code.quiet_builtin _ ():U3 F.entry_type_call ?_]
 rw[Around.under_plain (weight_type_call_type "set" [.ref l] []) rfl];have h1:=F.called_set.notType;have h2:=F.called_set.canCreate;have h3:=F.typeCall_set_1 (.ref l)
 repeat (any_goals (first|assumption|wp_step))
 refine UY (C6 (.ref l) (E:=E) (Q₁:=λobj u=>obj= .ref #[0,s]/\u={s with heap:=s.heap.push (y8 (!byT w))}) [1:1]) λr u O=>?_
 match r,O with
 | .error e,O=>exact O
 | .ok (.ret obj),O=>
  erw[O,rfl,rfl];have U:(s.heap.push (y8 (!byT w))).get? #[0,s]=u_ (IT #[] 0 (.fresh 0 0 (!byT w))):=uJ _ rfl;have Z:TxS P w (s.heap.push (y8 (!byT w))) #[0,s] []:=⟨_,_,_,U,CA,uq _,λy=>by simp[zK]⟩
  generalize aw:(!byT w)=led at U Z;have ae:Shared.TypeIs {s with heap:=s.heap.push (y8 led)} (.ref #[0,s]) "set":=[_:U:1]
  have l1:=F.called_set.init.lookup;have l2:=F.called_set.init.bind (.ref #[0,s])
  repeat (any_goals (first|assumption|wp_step))
  refine UY (Ru (R:=wants (λr u=>r= .none/\∃h' tk,u={s with heap:=h',toks:=tk}/\(∀b o,s.heap.get? b=u_ o->h'.get? b=u_ o)/\TxS P w h' #[0,s] ls/\s.toks<=tk) E) F.called_set.init.plain F.entry_set_init (check_set_init_1 ae ?_)) λr u O=>?_
  ·erw[hl,[oc,od,aA,os],ol,hc,n,hd];simp only at hc hd;subst hc hd;have af:(s.heap.push (y8 led)).get? l=u_ {cls:= .type "tuple",dict:=od,data:= .seq items n,slots:=os}:=uh _ ol;have a1:=F.sub_tuple_set;have a2:=F.sub_tuple_frozenset;have a3:(VY "tuple"==VY "dict")=false:=by decide
   have aa:(s.heap.push (y8 led)).IsTuple l items:=⟨_,af,1,n,1⟩;unfold G6.«set.__init__» noKeywords pE;generalize ag:GV=PI
   wp_walk
   subst ag;refine UJ aa ?_;refine A4 (wpAny_runValue ?_);have ac:l<#[0,s]:=uK ol;have ah:A.in1.in1.in1.handled=none:=by simp[hh]
   have ak:l≠(s.heap.push (y8 led)).objs.size:=by rw[vf];exact uR (tF ac)
   have al:#[0,s]∉ [(s.heap.push (y8 led)).objs.size,l]:=by
    rw[vf];simp![uG,vm,uH,uS,V3];exact[uR (UZ _):U6 ac]
   have ad:items.size=↑ls:=by rw[<-Vq];exact Iy hS
   refine AaU (n:=items.size) ((Walks.tuple ah _ l ak items).toS) (λi v h=>CH hS i v (by rwa[Up])) #[0,s] al ad hz (items.size-0) 0 _ () (uP _) [⟨_,uJ _ rfl,1,1⟩:(aa.push _)] (Z.to λo e=>uh _ e) ?hR
   case hR=>
    intro s' hm am;erw[s',h',g',d',ao,ap];have eg:g'=s.gens:=hm.gens;have ed:d'=s.drawn:=hm.drawn;have eo:ap=s.os:=hm.os;subst eg;subst ed;subst eo;show V7 _ _ _ _ _ _;refine Vb ?_;show V7 _ _ (ret VF) _ _ _;refine Vb ⟨1,h',ao,1,λb o e=>?_,am,hm.toks⟩;have hb:=uK e;have aq:b≠#[0,s]:=uR hb;have au:b≠(s.heap.push (y8 led)).objs.size:=by rw[vf];exact uR (tF hb)
    exact hm.heap b o (by simp![uG,vm,uH,uS,V3];exact[aq:au]) (uh _ (uh _ e))
  ·match r,O with
   | .error e,O=>exact O
   | .ok (.ret v),O=>
    erw[O,rfl,h',tk,rfl,k1,k2,k3]
    repeat (any_goals (first|assumption|wp_step))
    exact q _ _ k1 k2 k3
end
section
variable {X:Cx}
def oX (O:X.calm=v_):Yt X (.type "set") (λxs H Q=>∃(p:o3) (ls:oj Str),xs= [.ref p]/\SqT X.K H p (ls.map V.str)/\↑ls<=1000/\∀q,H q=U_->Q (.ref q) (upd H q (gT X.prog X.w q ls))):=by
 exists 2,xs,us,Q,I,r,h;erw[h,p,ls,rfl,U,hl,q];erw[Jw r,u,rfl,ru];cases ru;erw[I.tuple U,its,rv,pl,hz];have Z:↑its=↑ls:=by have:=↑rv;simpa using this.symm
 refine uZ (n:=1) I.tk (Ace (items:=its.toArray) (I.ok.hd O) pl (by simpa using JT rv) (by rw[uz];unfold GZ;omega) λh' tk k1 k2 k3=>?_)
 intro htk;exact⟨.ref #[0,s],_,I.laid (t':=tk) (o:=gT X.prog X.w #[0,s] ls) k1 (uq _) (AcH k2) htk,1,q _ (I.hok.fresh (uq _))⟩
def oZ:Yt X (.builtin "len") (λxs H Q=>∃(a:o3) (ls:oj Str),xs= [.ref a]/\H a=u_ (gT X.prog X.w a ls)/\ls.Nodup/\↑ls<=1000/\Q (.int ↑ls) H):=by
 exists 2,xs,us,Q,I,r,h;erw[h,a,ls,rfl,ha,hn,hl,q];erw[Jw r,u,rfl,ru];cases ru;obtain⟨es,ep,t,O,ok,hz,mem⟩:=(show yf X.prog X.w H s.heap a (gT X.prog X.w a ls) from I.hok a _ ha).1
 have U:(zK es).Perm ls:=(List.perm_ext_iff_of_nodup ok.nd hn).mpr mem;have Z:es.size=↑ls:=by
  have:=U.length_eq;unfold zK at this
  rwa[ud,Vq] at this
 have hs:=uI;exact PySem.call_len_set O (by first|exact rfl|exact[1:1]|exact .inl rfl|exact[1:1:1]|(unfold Obj.ExactSet;simp[IT])) rfl ok.fits () ⟨.int ↑ls,H,I.tok _,⟨_,by rw[Z]⟩,q⟩
end
end L2
namespace K24
open PySem L2 PyProof.Rows
inductive A5 (p0 p1 p2 p3 p4:Prop):Prop
 |mk (_:p0)(_:p1)(_:p2)(_:p3)(_:p4)
inductive E3 {t0 t1 t2:Type}(p:t0->t1->t2->Prop):Prop
 |mk (x0:t0)(x1:t1)(x2:t2)(h:p x0 x1 x2)
open Builtin.Int (intBits)
nonrec def top (i:Nat):Stmt:=PySem.Challenge.pw_askwright_k24_whole_founded.main.body.getD i (.Pass ⟨(0),(0),(0),(0)⟩)
noncomputable abbrev wU:Stmt:=top 17
noncomputable abbrev XM:Stmt:=top 18
noncomputable abbrev wR:Stmt:=top 19
noncomputable abbrev wl:Stmt:=top 21
noncomputable abbrev yW:Stmt:=top 22
noncomputable abbrev Xd:Stmt:=top 23
noncomputable abbrev Z5:Stmt:=top 29
noncomputable abbrev xU:Stmt:=top 30
noncomputable abbrev ZU:Stmt:=top 31
noncomputable abbrev JK:Stmt:=top 32
noncomputable abbrev xH:Stmt:=top 33
noncomputable abbrev zH:Stmt:=top 34
noncomputable abbrev wF:Stmt:=top 35
noncomputable abbrev xG:Stmt:=top 38
noncomputable abbrev xQ:Stmt:=top 39
noncomputable abbrev Xq:Stmt:=top 40
noncomputable abbrev zE:Stmt:=top 41
noncomputable abbrev zC:Stmt:=top 42
noncomputable abbrev xB:Stmt:=top 43
noncomputable abbrev Ju:Stmt:=top 44
noncomputable abbrev Xa:Stmt:=top 45
noncomputable abbrev Xn:Stmt:=top 46
noncomputable abbrev zJ:Stmt:=top 47
noncomputable abbrev xL:Stmt:=top 48
noncomputable abbrev YD:Stmt:=top 50
noncomputable abbrev Yn:Stmt:=top 51
noncomputable abbrev ji:Stmt:=Qn (top 52) 0
noncomputable abbrev jD:Stmt:=Qn (top 52) 1
noncomputable abbrev Yl:Stmt:=Qn (top 52) 2
noncomputable abbrev YU:Stmt:=Qn (top 52) 3
noncomputable abbrev YE:Stmt:=Qn (top 52) 6
noncomputable abbrev yd:Stmt:=Qn (top 52) 7
noncomputable abbrev Ym:Stmt:=Qn (top 52) 8
noncomputable abbrev je:Stmt:=Qn (top 52) 9
noncomputable abbrev zZ:Stmt:=top 53
noncomputable abbrev Jq:Stmt:=Qn (top 55) 0
noncomputable abbrev jN:Stmt:=Qn (top 55) 1
noncomputable abbrev JR:Stmt:=Qn (top 55) 2
noncomputable abbrev jg:Stmt:=Qn (top 55) 3
noncomputable abbrev JF:Stmt:=Qn (top 55) 4
noncomputable abbrev Jv:Stmt:=Qn (top 55) 5
noncomputable abbrev yV:Stmt:=Qn (top 56) 0
noncomputable abbrev QP:Stmt:=Qn (top 56) 1
noncomputable abbrev QU:Stmt:=Qn (top 56) 2
noncomputable abbrev yA:Stmt:=Qn (top 56) 3
noncomputable abbrev yk:Stmt:=Qn (top 56) 4
noncomputable abbrev ym:Stmt:=Qn (top 56) 5
noncomputable abbrev yC:Stmt:=Qn (top 56) 6
noncomputable abbrev yH:Stmt:=Qn (top 56) 7
noncomputable abbrev QS:Stmt:=Qn (top 56) 8
noncomputable abbrev Yf:Stmt:=top 57
noncomputable abbrev xV:Stmt:=top 58
noncomputable abbrev Jr:Stmt:=top 59
noncomputable abbrev jB:Stmt:=top 60
noncomputable abbrev JB:Stmt:=top 61
noncomputable abbrev JJ:Stmt:=top 62
noncomputable abbrev xz:Stmt:=top 63
noncomputable abbrev zA:Stmt:=top 64
noncomputable abbrev Za:Stmt:=top 65
noncomputable abbrev zY:Stmt:=top 66
noncomputable abbrev KM:Stmt:=top 67
noncomputable abbrev xO:Stmt:=top 70
noncomputable abbrev yZ:Stmt:=Qn (top 71) 0
noncomputable abbrev ju:Stmt:=Qn (top 71) 1
noncomputable abbrev yo:Stmt:=Qn (top 71) 2
noncomputable abbrev QT:Stmt:=Qn (top 71) 3
noncomputable abbrev jQ:Stmt:=top 72
noncomputable abbrev jF:Stmt:=top 74
noncomputable abbrev Z0:Stmt:=top 75
noncomputable abbrev Zg:Stmt:=top 76
noncomputable abbrev zq:Stmt:=top 77
noncomputable abbrev J4:Stmt:=top 78
noncomputable abbrev J0:Stmt:=top 79
noncomputable abbrev xS:Stmt:=top 80
noncomputable abbrev J3:Stmt:=top 81
noncomputable abbrev JH:Stmt:=top 82
noncomputable abbrev YQ:Stmt:=top 83
noncomputable abbrev zD:Stmt:=top 84
noncomputable abbrev jE:Stmt:=top 85
noncomputable abbrev Yk:Stmt:=top 88
noncomputable abbrev jC:Stmt:=top 89
noncomputable abbrev Q2:Stmt:=top 90
noncomputable abbrev yY:Stmt:=top 91
noncomputable abbrev C9:Stmt:=top 92
set_option genInjectivity false in
set_option genSizeOf false in
structure Ad where
 f_is_text:o3
 d_is_text:V8
 f_is_tree:o3
 d_is_tree:V8
 f_is_name:o3
 d_is_name:V8
 f_is_pair:o3
 d_is_pair:V8
 jt:o3
 js:V8
 wW:o3
 wt:V8
 f_part_of:o3
 d_part_of:V8
 Z1:o3
 wp:V8
 f_row_of:o3
 d_row_of:V8
 Zw:o3
 Zv:V8
 wq:o3
 wc:V8
 W7:o3
 WP:V8
 f_is_rule:o3
 d_is_rule:V8
 xM:o3
 wD:V8
 xI:o3
 wy:V8
 xR:o3
 Wh:V8
 zx:o3
 WT:V8
 zy:o3
 kt:V8
 Xj:o3
 wO:V8
 JS:o3
 ZB:V8
 Xf:o3
 Z7:V8
 Xm:o3
 Z3:V8
 zP:o3
 WY:V8
 xY:o3
 ZZ:V8
 Jn:o3
 Jt:V8
 j3:o3
 j7:V8
 jc:o3
 xw:V8
 XW:o3
 ze:V8
 jY:o3
 jW:V8
 Jo:o3
 Jm:V8
 JW:o3
 JD:V8
 Yp:o3
 Yo:V8
 jV:o3
 jX:V8
 xk:o3
 xx:V8
 kJ:o3
 W0:V8
 Jg:o3
 ZD:V8
 XG:o3
 X3:V8
 Zs:o3
 Zx:V8
 xh:o3
 xt:V8
 ZE:o3
 Zy:V8
 ZF:o3
 ZG:V8
 yN:o3
 jj:V8
 yx:o3
 yM:V8
 yy:o3
 yF:V8
 Y1:o3
 Y7:V8
 YK:o3
 YN:V8
 Yx:o3
 YF:V8
 ja:o3
 Y4:V8
 Y0:o3
 Y6:V8
 yz:o3
 yD:V8
 jT:o3
 j0:V8
 Wn:o3
 Wc:V8
 Zu:o3
 Zt:V8
 zg:o3
 Xu:V8
 Zo:o3
 Zm:V8
 ZI:o3
 ZC:V8
 w8:o3
 wT:V8
 WH:o3
 WX:V8
 WG:o3
 WB:V8
 W3:o3
 WF:V8
 f_met_by:o3
 d_met_by:V8
 wX:o3
 ZX:V8
 jf:o3
 xo:V8
 zN:o3
 Zf:V8
 YB:o3
 YO:V8
 YT:o3
 YC:V8
 XX:o3
 XI:V8
 XE:o3
 Xt:V8
 f_law_pot:o3
 d_law_pot:V8
 WE:o3
 WM:V8
 kc:o3
 WD:V8
 kC:o3
 W6:V8
 kE:o3
 ki:V8
 wS:o3
 wB:V8
 WV:o3
 kn:V8
 Zl:o3
 Zr:V8
 JP:o3
 JQ:V8
 ku:o3
 WZ:V8
 zi:o3
 zl:V8
 j8:o3
 jS:V8
 zh:o3
 zk:V8
 Jx:o3
 JI:V8
 jr:o3
 jl:V8
 f_law:o3
 d_law:V8
 qo:o3
 qL:o3
 qq:o3
 qJ:o3
structure Tx (K:o0)(mg:Str->om o6)(a:Ad):Prop where
 mC:FF K mg "is_text" wU ["value"] a.f_is_text a.d_is_text
 iC:FF K mg "is_tree" XM ["value"] a.f_is_tree a.d_is_tree
 io:FF K mg "is_name" wR ["value"] a.f_is_name a.d_is_name
 md:FF K mg "is_pair" wl ["value"] a.f_is_pair a.d_is_pair
 iD:FF K mg "is_row_of_names" yW ["tree"] a.jt a.js
 mK:FF K mg "is_answer" Xd ["ask","answer"] a.wW a.wt
 mX:FF K mg "part_of" Z5 ["kind","piece","count"] a.f_part_of a.d_part_of
 mH:FF K mg "pieces_of" xU ["line","form"] a.Z1 a.wp
 oQ:FF K mg "row_of" ZU ["line","count"] a.f_row_of a.d_row_of
 lQ:FF K mg "read_lines" JK ["value"] a.Zw a.Zv
 lj:FF K mg "rule_rows" xH ["tree"] a.wq a.wc
 lT:FF K mg "bad_line" zH ["tree"] a.W7 a.WP
 mE:FF K mg "is_rule" wF ["value"] a.f_is_rule a.d_is_rule
 lf:FF K mg "text_made" xG ["boxes","own","parts"] a.xM a.wD
 li:FF K mg "self_made" xQ ["boxes","own","parts"] a.xI a.wy
 lr:FF K mg "copy_made" Xq ["boxes","own","parts"] a.xR a.Wh
 lP:FF K mg "row_made" zE ["boxes","own","parts"] a.zx a.WT
 lR:FF K mg "put_made" zC ["boxes","own","parts"] a.zy a.kt
 lp:FF K mg "join_made" xB ["boxes","own","parts"] a.Xj a.wO
 iY:FF K mg "first_made" Ju ["boxes","own","parts"] a.JS a.ZB
 ll:FF K mg "rest_made" Xa ["boxes","own","parts"] a.Xf a.Z7
 lh:FF K mg "size_made" Xn ["boxes","own","parts"] a.Xm a.Z3
 lS:FF K mg "cut_made" zJ ["boxes","own","parts"] a.zP a.WY
 lq:FF K mg "glue_made" xL ["boxes","own","parts"] a.xY a.ZZ
 lX:FF K mg "is_jump_taken" YD ["boxes","word","parts"] a.Jn a.Jt
 lI:FF K mg "asked_or_fault" Yn ["word","held"] a.j3 a.j7
 lc:FM K a.qo "__init__" "Machine.__init__" ji ["self","rule","own"] a.jc a.xw
 iN:FM K a.qo "now" "Machine.now" jD ["self"] a.XW a.ze
 iM:FM K a.qo "answer" "Machine.answer" Yl ["self","tree"] a.jY a.jW
 iS:FM K a.qo "asked" "Machine.asked" YU ["self"] a.Jo a.Jm
 iQ:FM K a.qo "go_on" "Machine.go_on" YE ["self"] a.JW a.JD
 il:FM K a.qo "is_waiting" "Machine.is_waiting" yd ["self"] a.Yp a.Yo
 lK:FM K a.qo "do_row" "Machine.do_row" Ym ["self","row"] a.jV a.jX
 l6:FM K a.qo "hold" "Machine.hold" je ["self","box","tree"] a.xk a.xx
 mP:FF K mg "replayed" zZ ["rule","own","answers"] a.kJ a.W0
 my:FM K a.qL "__init__" "Going.__init__" Jq ["self","name","source","order"] a.Jg a.ZD
 lG:FM K a.qL "begin" "Going.begin" jN ["self","rule"] a.XG a.X3
 lU:FM K a.qL "look" "Going.look" JR ["self"] a.Zs a.Zx
 l7:FM K a.qL "wanted" "Going.wanted" jg ["self"] a.xh a.xt
 iZ:FM K a.qL "take" "Going.take" JF ["self","answer"] a.ZE a.Zy
 mz:FM K a.qL "full" "Going.full" Jv ["self"] a.ZF a.ZG
 lz:FM K a.qq "__init__" "PlainOrder.__init__" yV ["self","project"] a.yN a.jj
 iq:FM K a.qq "begin_anew" "PlainOrder.begin_anew" QP ["self","project"] a.yx a.yM
 iJ:FM K a.qq "go_through" "PlainOrder.go_through" QU ["self","name"] a.yy a.yF
 iI:FM K a.qq "enter" "PlainOrder.enter" yA ["self","name"] a.Y1 a.Y7
 iT:FM K a.qq "settle" "PlainOrder.settle" yk ["self","going"] a.YK a.YN
 iU:FM K a.qq "runner" "PlainOrder.runner" ym ["self","rule","own"] a.Yx a.YF
 kw:FM K a.qq "leave" "PlainOrder.leave" yC ["self","going"] a.ja a.Y4
 ky:FM K a.qq "go_on" "PlainOrder.go_on" yH ["self","going"] a.Y0 a.Y6
 ic:FM K a.qq "answer_yet" "PlainOrder.answer_yet" QS ["self","name"] a.yz a.yD
 lJ:FF K mg "answer_at_once" Yf ["source"] a.jT a.j0
 mL:FF K mg "answer_by" xV ["end"] a.Wn a.Wc
 mx:FF K mg "check_name" Jr ["name"] a.Zu a.Zt
 mj:FF K mg "check_names" jB ["names"] a.zg a.Xu
 iw:FF K mg "order_from" JB ["project","name"] a.Zo a.Zm
 iX:FF K mg "order_over" JJ ["project","names"] a.ZI a.ZC
 iO:FF K mg "answer_of" xz ["project","name"] a.w8 a.wT
 mS:FF K mg "full_run" zA ["project","name"] a.WH a.WX
 lO:FF K mg "value_of" Za ["project","name"] a.WG a.WB
 mT:FF K mg "chain_of" zY ["project","name"] a.W3 a.WF
 oR:FF K mg "met_by" KM ["project","name"] a.f_met_by a.d_met_by
 mJ:FF K mg "is_source" xO ["value"] a.wX a.ZX
 lZ:FM K a.qJ "__init__" "Project.__init__" yZ ["self","sources"] a.jf a.xo
 Bt:FM K a.qJ "sources" "Project.sources" ju ["self"] a.zN a.Zf
 ii:FM K a.qJ "source_of" "Project.source_of" yo ["self","name"] a.YB a.YO
 iG:FM K a.qJ "looked_up" "Project.looked_up" QT ["self","ask"] a.YT a.YC
 mf:FF K mg "longest_row" jQ ["names"] a.XX a.XI
 lE:FF K mg "_law_cell_at" jF ["script","k"] a.XE a.Xt
 mY:FF K mg "_law_pot" Z0 ["cell","salt"] a.f_law_pot a.d_law_pot
 ie:FF K mg "_law_take" Zg ["pot","many"] a.WE a.WM
 iB:FF K mg "_law_word" zq ["pot","names"] a.kc a.WD
 mR:FF K mg "_law_line" J4 ["pot","names","many","k"] a.kC a.W6
 ml:FF K mg "_law_rule" J0 ["pot","names"] a.kE a.ki
 mI:FF K mg "_law_maker" xS ["pot","names"] a.wS a.wB
 mn:FF K mg "_law_leaf" J3 ["pot","names"] a.WV a.kn
 mw:FF K mg "_law_source" JH ["pot","names"] a.Zl a.Zr
 lW:FF K mg "_law_all_names" YQ ["script"] a.JP a.JQ
 mQ:FF K mg "_law_link" zD ["pot","names","k"] a.ku a.WZ
 mh:FF K mg "_law_sources" jE ["script"] a.zi a.zl
 lH:FF K mg "_law_told_right" Yk ["project","ask","answer"] a.j8 a.jS
 mi:FF K mg "_law_rule_of" jC ["source","asks"] a.zh a.zk
 lV:FF K mg "_law_run_right" Q2 ["project","name","run"] a.Jx a.JI
 lm:FF K mg "_law_chain_right" yY ["project","name"] a.jr a.jl
 Br:FF K mg "law" C9 ["script"] a.f_law a.d_law
 qt:Cls K a.qo
 M_Machine:Mk K a.qo a.jc
 m_Machine:mg "Machine"=u_ (.ref a.qo)
 y7:QL K a.qo "rows"
 Wr:QL K a.qo "rule"
 zd:QL K a.qo "own"
 Qy:QL K a.qo "boxes"
 Qq:QL K a.qo "place"
 ye:QL K a.qo "done"
 YG:QL K a.qo "given"
 qM:QL K a.qo "there"
 qQ:Cls K a.qL
 M_Going:Mk K a.qL a.Jg
 m_Going:mg "Going"=u_ (.ref a.qL)
 y9:QL K a.qL "name"
 XN:QL K a.qL "order"
 yE:QL K a.qL "made_by"
 yO:QL K a.qL "rule_asks"
 qX:QL K a.qL "rule_run"
 Q4:QL K a.qL "end"
 qy:Cls K a.qq
 M_PlainOrder:Mk K a.qq a.yN
 m_PlainOrder:mg "PlainOrder"=u_ (.ref a.qq)
 Qk:QL K a.qq "given_project"
 QE:QL K a.qq "stack"
 QA:QL K a.qq "under_way"
 Ql:QL K a.qq "full_runs"
 QD:QL K a.qq "found"
 Q3:Cls K a.qJ
 M_Project:Mk K a.qJ a.jf
 m_Project:mg "Project"=u_ (.ref a.qJ)
 Q7:QL K a.qJ "by_name"
 m_MOST_SIGNS:∃t,mg "MOST_SIGNS"=u_ (.int 300 t)
 m_MOST_PARTS:∃t,mg "MOST_PARTS"=u_ (.int 40 t)
 m_MOST_SIZE:∃t,mg "MOST_SIZE"=u_ (.int 600 t)
 m_MOST_DEPTH:∃t,mg "MOST_DEPTH"=u_ (.int 12 t)
 zS:∃t,mg "MOST_NAME_SIGNS"=u_ (.int 24 t)
 m_LETTERS:∃t,mg "LETTERS"=u_ (.str "abcdefghijklmnopqrstuvwxyz" t)
 m_NAME_SIGNS:∃t,mg "NAME_SIGNS"=u_ (.str "abcdefghijklmnopqrstuvwxyz0123456789./" t)
 m_PERCENT:∃t,mg "PERCENT"=u_ (.int 37 t)
 m_MOST_LINES:∃t,mg "MOST_LINES"=u_ (.int 40 t)
 m_MOST_DONE:∃t,mg "MOST_DONE"=u_ (.int 300 t)
 m_MOST_NAMES:∃t,mg "MOST_NAMES"=u_ (.int 60 t)
 z_ord:mg "ord"=U_
 Q0:mg "len"=U_
 qS:mg "isinstance"=U_
 Zi:mg "str"=U_
 QH:mg "tuple"=U_
 z_all:mg "all"=U_
 z_int:mg "int"=U_
 jI:mg "range"=U_
 z_zip:mg "zip"=U_
 z_dict:mg "dict"=U_
 z_sorted:mg "sorted"=U_
 z_abs:mg "abs"=U_
 z_min:mg "min"=U_
 z_sum:mg "sum"=U_
 z_max:mg "max"=U_
 z_set:mg "set"=U_
def kO:qw ["value","sign"] ["value"] (qi wU):=by trivial
def yt:qw ["value","size","waiting","pair","part","depth"] ["value"] (qi XM):=by trivial
def BY:qw ["value"] ["value"] (qi wR):=by trivial
def BW:qw ["value"] ["value"] (qi wl):=by trivial
def XF:qw ["tree"] ["tree"] (qi yW):=by trivial
def nP:qw ["ask","answer"] ["ask","answer"] (qi Xd):=by trivial
def ko:qw ["kind","piece","count","numbers"] ["kind","piece","count"] (qi Z5):=by trivial
def nN:qw ["line","form"] ["line","form"] (qi xU):=by trivial
def JG:qw ["line","count","word","form","pieces","parts"] ["line","count"] (qi ZU):=by trivial
def Yq:qw ["value","rows","line","row"] ["value"] (qi JK):=by trivial
def Zj:qw ["tree","read"] ["tree"] (qi xH):=by trivial
def sF:qw ["tree"] ["tree"] (qi zH):=by trivial
def BV:qw ["value"] ["value"] (qi wF):=by trivial
def nH:qw ["boxes","own","parts"] ["boxes","own","parts"] (qi xG):=by trivial
def nJ:qw ["boxes","own","parts"] ["boxes","own","parts"] (qi xQ):=by trivial
def nQ:qw ["boxes","own","parts"] ["boxes","own","parts"] (qi Xq):=by trivial
def sE:qw ["boxes","own","parts"] ["boxes","own","parts"] (qi zE):=by trivial
def wu:qw ["boxes","own","parts","row"] ["boxes","own","parts"] (qi zC):=by trivial
def Jj:qw ["boxes","own","parts","one","other"] ["boxes","own","parts"] (qi xB):=by trivial
def Xv:qw ["boxes","own","parts","whole"] ["boxes","own","parts"] (qi Ju):=by trivial
def Zz:qw ["boxes","own","parts","whole"] ["boxes","own","parts"] (qi Xa):=by trivial
def nI:qw ["boxes","own","parts"] ["boxes","own","parts"] (qi Xn):=by trivial
def Xg:qw ["boxes","own","parts","whole","between"] ["boxes","own","parts"] (qi zJ):=by trivial
def Jf:qw ["boxes","own","parts","row","between"] ["boxes","own","parts"] (qi xL):=by trivial
def ZL:qw ["boxes","word","parts"] ["boxes","word","parts"] (qi YD):=by trivial
def zL:qw ["word","held"] ["word","held"] (qi Yn):=by trivial
def Wi:qw ["self","rule","own"] ["self","rule","own"] (qi ji):=by trivial
def WA:qw ["self"] ["self"] (qi jD):=by trivial
def jp:qw ["self","tree","ask"] ["self","tree"] (qi Yl):=by trivial
def ZK:qw ["self"] ["self"] (qi YU):=by trivial
def ZM:qw ["self"] ["self"] (qi YE):=by trivial
def JA:qw ["self"] ["self"] (qi yd):=by trivial
def yX:qw ["self","row","word","parts"] ["self","row"] (qi Ym):=by trivial
def wE:qw ["self","box","tree"] ["self","box","tree"] (qi je):=by trivial
def jM:qw ["rule","own","answers","machine","used"] ["rule","own","answers"] (qi zZ):=by trivial
def Kn:qw ["self","name","source","order"] ["self","name","source","order"] (qi Jq):=by trivial
def Wx:qw ["self","rule"] ["self","rule"] (qi jN):=by trivial
def Kw:qw ["self"] ["self"] (qi JR):=by trivial
def ZY:qw ["self"] ["self"] (qi jg):=by trivial
def Ky:qw ["self","answer"] ["self","answer"] (qi JF):=by trivial
def X0:qw ["self","asks"] ["self"] (qi Jv):=by trivial
def Xr:qw ["self","project"] ["self","project"] (qi yV):=by trivial
def jm:qw ["self","project"] ["self","project"] (qi QP):=by trivial
def QN:qw ["self","name","top","missing"] ["self","name"] (qi QU):=by trivial
def xJ:qw ["self","name"] ["self","name"] (qi yA):=by trivial
def xc:qw ["self","going"] ["self","going"] (qi yk):=by trivial
def J9:qw ["self","rule","own"] ["self","rule","own"] (qi ym):=by trivial
def xD:qw ["self","going"] ["self","going"] (qi yC):=by trivial
def yl:qw ["self","going","ask","answer"] ["self","going"] (qi yH):=by trivial
def yu:qw ["self","name","at_once"] ["self","name"] (qi QS):=by trivial
def Zb:qw ["source"] ["source"] (qi Yf):=by trivial
def nS:qw ["end"] ["end"] (qi xV):=by trivial
def Km:qw ["name"] ["name"] (qi Jr):=by trivial
def xq:qw ["names","name"] ["names"] (qi jB):=by trivial
def KR:qw ["project","name"] ["project","name"] (qi JB):=by trivial
def jy:qw ["project","names","order","name"] ["project","names"] (qi JJ):=by trivial
def nR:qw ["project","name"] ["project","name"] (qi xz):=by trivial
def Wg:qw ["project","name","order"] ["project","name"] (qi zA):=by trivial
def wj:qw ["project","name","answer"] ["project","name"] (qi Za):=by trivial
def yR:qw ["project","name","order","answer","names","after"] ["project","name"] (qi zY):=by trivial
def C8:qw ["project","name"] ["project","name"] (qi KM):=by trivial
def nO:qw ["value"] ["value"] (qi xO):=by trivial
def yK:qw ["self","sources","by_name","name","source"] ["self","sources"] (qi yZ):=by trivial
def xg:qw ["self","name"] ["self","name"] (qi yo):=by trivial
def xf:qw ["self","ask"] ["self","ask"] (qi QT):=by trivial
def y6:qw ["names","row","name"] ["names"] (qi jQ):=by trivial
def Wv:qw ["script","k"] ["script","k"] (qi jF):=by trivial
def Yu:qw ["cell","salt","step","big","k"] ["cell","salt"] (qi Z0):=by trivial
def wH:qw ["pot","many","digit"] ["pot","many"] (qi Zg):=by trivial
def Wf:qw ["pot","names","some"] ["pot","names"] (qi zq):=by trivial
def yq:qw ["pot","names","many","k","words","word","one","two","three","at"] ["pot","names","many","k"] (qi J4):=by trivial
def jG:qw ["pot","names","body","many","lines"] ["pot","names"] (qi J0):=by trivial
def Y5:qw ["pot","names","asked","lines"] ["pot","names"] (qi xS):=by trivial
def wQ:qw ["pot","names","kind"] ["pot","names"] (qi J3):=by trivial
def XJ:qw ["pot","names","kind"] ["pot","names"] (qi JH):=by trivial
def Yi:qw ["script","first","names"] ["script"] (qi YQ):=by trivial
def wP:qw ["pot","names","k","other"] ["pot","names","k"] (qi zD):=by trivial
def QZ:qw ["script","names","pairs","k","cell","pot"] ["script"] (qi jE):=by trivial
def zm:qw ["project","ask","answer"] ["project","ask","answer"] (qi Yk):=by trivial
def Wq:qw ["source","asks"] ["source","asks"] (qi jC):=by trivial
def Qc:qw ["project","name","run","source","asks","end","rule","rest","done","now","left"] ["project","name","run"] (qi Q2):=by trivial
def QG:qw ["project","name","names","ring","k","end"] ["project","name"] (qi yY):=by trivial
def JN:qw ["script","pairs","project","at","name","source","order","k","run","needed"] ["script"] (qi C9):=by trivial
structure Ga where
 (boxes asking forms makers br bn:o3)
nonrec def Abx:oj Str:= ["ask","has","names","go","like","rowed","none","say","fault"]
structure Fx (K:o0)(w:og)(mg:Str->om o6)(g:Ga)(a:Ad):Prop where
 m_BOXES:mg "BOXES"=u_ (.ref g.boxes)
 m_ASKING:mg "ASKING"=u_ (.ref g.asking)
 m_FORMS:mg "FORMS"=u_ (.ref g.forms)
 m_MAKERS:mg "MAKERS"=u_ (.ref g.makers)
 boxes:∀H,SqT K H g.boxes (BX.map V.str)
 asking:∀H,SqT K H g.asking [.str "ask",.str "has",.str "names"]
 kd:Ij K w g.forms
 forms:∀x∈FRM,∃q,PySem.W.nsIn K g.forms x.1=u_ (u_ (.ref q))/\∀H,SqT K H q (x.2.map λk=>V.str k.t)
 km:Ij K w g.makers
 k_text:PySem.W.nsIn K g.makers "text"=u_ (u_ (.ref a.xM))
 k_self:PySem.W.nsIn K g.makers "self"=u_ (u_ (.ref a.xI))
 k_copy:PySem.W.nsIn K g.makers "copy"=u_ (u_ (.ref a.xR))
 k_row:PySem.W.nsIn K g.makers "row"=u_ (u_ (.ref a.zx))
 k_put:PySem.W.nsIn K g.makers "put"=u_ (u_ (.ref a.zy))
 k_join:PySem.W.nsIn K g.makers "join"=u_ (u_ (.ref a.Xj))
 k_first:PySem.W.nsIn K g.makers "first"=u_ (u_ (.ref a.JS))
 k_rest:PySem.W.nsIn K g.makers "rest"=u_ (u_ (.ref a.Xf))
 k_size:PySem.W.nsIn K g.makers "size"=u_ (u_ (.ref a.Xm))
 k_cut:PySem.W.nsIn K g.makers "cut"=u_ (u_ (.ref a.zP))
 k_glue:PySem.W.nsIn K g.makers "glue"=u_ (u_ (.ref a.xY))
 k_no:∀z∈Abx,PySem.W.nsIn K g.makers z=u_ U_
 none_:∀z,xl z=U_->PySem.W.nsIn K g.forms z=u_ U_
 m_BadRule:mg "BadRule"=u_ (.ref g.br)
 x_BadRule:PySem.W.excIn K g.br VE "ValueError.__new__"=v_
 m_BadName:mg "BadName"=u_ (.ref g.bn)
 x_BadName:PySem.W.excIn K g.bn VE "ValueError.__new__"=v_
variable {n:Nat}
def yL (h:n<=1000):n<=sizeLine:=UE (X2 h)
def sml (h:Nat.ble n 1000=v_):n<=sizeLine:=yL (Nat.le_of_ble_eq_true h)
def fits (h:n<=16000000):n<=sizeLine:=by rw[uI];omega
def Xk {α:Type}{xs:oj α}{i:Int}{c:α}(h:atI xs i=u_ c):c∈xs:=by
 unfold atI at h;erw[Option.bind_eq_some_iff.mp h,j,_,e];exact vj e
variable {z:Str}
def sP (h:300<↑z):QB z=false:=by
 unfold QB;rw[ue ()]
 rfl
nonrec def LF:D->Bool
 | .str z=>QB z
 |_=>V6
inductive W2:Sp
 |mk (v:_)(d:_)(_:vs= [v])(_:Is H d v)(_:Q (.bl (LF d)) H)
inductive W4:Sp
 |mk (v:_)(d:_)(_:vs= [v])(_:Is H d v)(_:∀H',ia H H'->Q (.bl (isT d)) H')
nonrec def pr (p:D×Nat):D:= .tup [p.1,.int (p.2:Int)]
variable {i:Nat}
def Cb {c:Nat}(h:z.cps[i]? =u_ c)(O:QC c=V6):QB z=false:=by
 unfold QB;have hm:c∈z.cps.toList:=by
  have:z.cps.toList[i]? =u_ c:=by simpa using h
  exact vj this
 have:z.cps.toList.all QC=false:=by
  rw[List.all_eq_false];exact⟨c,hm,by rw[O];exact uc⟩
 rw[this,Tt]
section
variable {P:o9}{w:og}{K:o0}{mg:Str->om o6}{base:o8}{a:Ad}
def kh:#[T,1,a.f_is_text,a.d_is_text,["value"],W2]:=by
 exists 9,T.mC,kO
 erw[h,v,d,rfl,hv,k];exists 3,%[@qI _ _ _ _ _ _ _ _ #[Xp,#[Qv,#[Qh,#[qx,#[Qb,2,rfl],T.qS,vd,#v[pv 0,#[yc,.ty "str",T.Zi,UB]]]]],#[jq,#[qm,oy,#[qx,Zp,T.Q0,uL,#v[pv 0]],#[Kk,T.m_MOST_SIGNS]]]].pt %[|#[qp,YV]] qr,#[Je,#[Mn,4,pv 0],#[qN,(1),kO.nd],%[|@qI _ _ _ _ _ _ _ _ #[Xp,#[qm,Du,pv 1,ql],#[Xp,#[qm,Dy,pv 1,ql],#[jq,#[qm,Qr,#[qx,LV,T.z_ord,boot_ord,#v[pv 1]],#[Kk,T.m_PERCENT]]]]].pt %[|#[qp,YV]] qr]]|#[qp,YV]]
 exists 0,v,"str",tyD d,isStr d,1,hv.ty,jR d,0;cases d with
 |str z=>
  erw[hv,rfl,hz];refine iP ?_
  exists 0,z,1,hz,_,0,1,0;refine lL (λc=>?_) (λc=>?_)
  ·have c':(300:Int)<(↑z:Int):=uw c;have e:LF (.str z)=false:=sP ()
   rwa[e] at k
  ·have c':¬(300:Int)<(↑z:Int):=λq=>c (A6 q)
   exists 0,z,1
   let J1_:Nat->L2.St->Hp->Prop:=λi σ H'=>(∃x,σ= [u_ (.str z),x])/\H'=H/\(z.cps.toList.take i).all QC=v_
   refine Pr J1_ [⟨0⟩:1:1] ?_ ?_
   ·rintro i c σ H' hc ⟨⟨x,rfl⟩,rfl,O⟩;have bad:QC c=V6->Q (.bl V6) H':=λe=>by
     have e':LF (.str z)=false:=Cb hc e;rwa[e'] at k
    exists 0,_,0,1,0;rw[show decide ((⟨#[c]⟩:Str).cps.toList<(" ":Str).cps.toList)=decide (c<32) from AaT c 32]
    refine lL (λZ=>?_) (λZ=>?_)
    ·refine lC (bad ?_);have:=uw Z;unfold QC;rw[ue ()]
     rfl
    ·have aa:¬c<32:=λq=>Z (A6 q)
     exists 0,_,0,1,0;rw[show decide (("~":Str).cps.toList<(⟨#[c]⟩:Str).cps.toList)=decide (126<c) from AaD c 126]
     refine lL (λc2=>?_) (λc2=>?_)
     ·refine lC (bad ?_);have:=uw c2;unfold QC;rw[ue (p:=c<=126) (),Tt]
      rfl
     ·have ac:¬126<c:=λq=>c2 (A6 q)
      exists 0,0,1,1,0;refine lL (λc3=>?_) (λc3=>?_)
      ·have U:c=37:=by
        have:=uw c3;have:=V.int.inj this;exact pK this
       exact bad (by subst U;rfl)
      ·have U:c≠37:=λq=>c3 (A6 (by rw[q];rfl))
       exists ⟨0⟩,1;rw[vx,show z.cps.toList[i]? =u_ c by simpa using hc,UP,O]
       show(v_&&(QC c&&v_))=v_;unfold QC;rw[A6 (),A6 (p:=c<=126) (),A6 U]
       rfl
   ·rintro σ H' ⟨⟨x,rfl⟩,rfl,O⟩;have e:LF (.str z)=true:=by
     show QB z=v_;unfold QB;rw[vk (by simp)] at O
     rw[O,A6 ()]
     rfl
    rwa[e] at k
 |_=>exact lC (lC k)
def Bh {α β:Type}(f:α->β)(xs:oj α)(x:α):(xs++ [x]).map f=xs.map f++ [f x]:=by simp
def Pf {α:Type}(us:oj α)(x:α):(us++ [x])[↑(us++ [x])-1]? =u_ x:=by simp
def EM {α:Type}(us:oj α)(x:α):(us++ [x]).dropLast=us:=by simp
nonrec def Wt (v:V)(d:D)(H:Hp)(L:o3)(m:Nat)(σ:L2.St)(H':Hp):Prop:=
 ∃(n:Nat) (w:oj (D×Nat)) (ws:oj V) (x3 x4 x5:om V),σ= [u_ v,u_ (.int n),u_ (.ref L),x3,x4,x5]/\ia H H'/\H' L=u_ (.lst ws)/\IsL H' (w.map pr) ws/\G w n=isT d/\n<=600/\↑w<=1+40*n/\m=ndL (w.map (·.1))
def jo:#[T,2,a.f_is_tree,a.d_is_tree,["value"],W4]:=by
 have Wm:=#[kh,T];refine T.iC.F.ok yt () (λ_ _ _ _ H vs Q E hr h=>?_)
 erw[h,v,d,rfl,hv,k];exists 3,%[#[qG,(1),yt.nd,qh],#[qG,(2),yt.nd,#[Q9,#v[#[qB,#v[pv 0,qh]]]]],#[JZ,#[AO,3,pv 2,(λ_=>rfl)],%[#[qG,(3),yt.nd,#[Mo,9,uW,PySem.F.slot_list_pop,PySem.F.type_list_pop,Mx,pv 2,_,_]],#[qG,(4),yt.nd,#[qF,qz,pv 3,qh]],#[qG,2,(5),4,yt.nd,rfl,gY rfl,#[qF,qz,pv 3,qh],_,_],@qI _ _ _ _ _ _ _ _ #[X1,#[Qh,#[qx,#[Qb,2,rfl],T.qS,vd,#v[pv 4,#[yc,.ty "tuple",T.QH,vn]]]],#[jP,#[qm,Dw,#[qx,Ka,T.Q0,uL,#v[pv 4]],#[Kk,T.m_MOST_PARTS]]]].pt %[#[Dj,2,(1),6,yt.nd,rfl,Go rfl,qh,En,_]|#[Qd,#[jk,uW,PySem.F.slot_list_extend,PySem.F.type_list_extend,oE,pv 2,#v[#[xN,["below","depth"],(1),[5],Ea (qi XM) ["value","size","waiting","pair","part","depth"],#[Xo,pv 4],(λ_ _ _ _ _ _=>#[qN,(0),(show Vl (["below","depth"]:oj Str) by decide+kernel)]),(λ_ _ _ _ _ _=>#[qB,#v[pv 0,#[qY,yi,pv 1,qh]]])]]]]] %[|#[qI,#[Qh,#[qv,Wm,T.mC,#v[pv 4]]],%[|#[Dj,2,(1),6,yt.nd,rfl,Go rfl,#[qY,yi,qh,#[qx,Ka,T.Q0,uL,#v[pv 4]]],En,_]],%[|#[qp,YV]]]]|@qI _ _ _ _ _ _ _ _ #[Xp,#[qm,oy,pv 5,#[Kk,T.m_MOST_DEPTH]],#[jq,#[qm,oy,pv 1,#[Kk,T.m_MOST_SIZE]]]].pt %[|#[qp,YV]] qr]]|#[qp,YV]]
 have no:∀{H':Hp}{w:oj (D×Nat)}{n:Nat},ia H H'->G w n=isT d->G w n=V6->Q (.bl V6) H':=λ{H' w n} sm e1 e2=>by
  have q:=k H' sm;rwa[<-e1,e2] at q
 exists 0,(sml rfl),λt1 h1=>[(sml rfl):λL hL=>?_];have s1:ia H (upd H t1 (.tup [v,.int 1])):=qf h1 _;have s2:ia H (upd (upd H t1 (.tup [v,.int 1])) L (.lst [.ref t1])):=s1.trans (qf hL _);have ak:H L=none:=s1.free hL;have i1:Is (upd H t1 (.tup [v,.int 1])) (pr (d,1)) (.ref t1):=Is.new (ds:= [d,.int 1]) ⟨v,0,hv,_,0,1,1⟩ h1
 exists Wt v d H L,⟨_,(0),[(d,1)],[.ref t1],U_,U_,U_,1,s2,qg,IsL.one (i1.mono (qf hL _).tk),PZ d,(),by simp,1⟩
 rintro m σ H' ⟨n,w,ws,x3,x4,x5,rfl,sm,hl,hw,hG,hn,am,rfl⟩
 exists 0,!ws.isEmpty,.inl [ws:SqL.of hl:1];rcases tR w with rfl|⟨w',⟨e,j⟩,rfl⟩
 ·cases(show ws= [] from hw)
  refine iP ?_;have q:=k H' sm;rwa[<-hG,Ac0 hn] at q
 ·rw[rp] at*;rw[Bh] at hw;erw[hw.unsnoc,us,x,rfl,hu,hx];have ne:(!(us++ [x]).isEmpty)=true:=by simp
  rw[ne];refine lC ⟨λσ' ao=>∃m',m'<ndL ((w'++ [(e,j)]).map (·.1))/\Wt v d H L m' σ' ao,λ_ _ h=>h,?_⟩;have hm:ndL ((w'++ [(e,j)]).map (·.1))=ndL (w'.map (·.1))+nd e:=by
   rw[Bh,zB];simp[ndL]
  have aq:↑w'<=40*n:=by
   rw[uB,v9] at am;omega
  have lu:=↑hu;rw[ud] at lu
  exists 0,.inl [1:_:SqL.of hl],L,_,x,1,1,hl,Pf us x;rw[EM];have t2:Tk H' (upd H' L (.lst us)):=Tk.updL hl;have O:ia H (upd H' L (.lst us)):=λb o z=>by rw[qj (qk z ak)];exact sm b o z
  have ae:Is (upd H' L (.lst us)) (.tup [e,.int (j:Int)]) x:=hx.mono t2;have af:IsL (upd H' L (.lst us)) (w'.map pr) us:=hu.mono t2;have U:upd H' L (.lst us) L=u_ (.lst us):=qg;generalize upd H' L (.lst us)=H2 at t2 O ae af U⊢;clear t2 hl hx hu sm
  exists 0,xT (i:=0) ae rfl λy hy=>?_
  exists 0,xT (i:=1) ae rfl λy1 ap=>?_;cases(show y1= .int (j:Int) from ap)
  show nh _ _ _ _ H2;refine qC λN0 n0=>n0 _ _ ?_;exists 8,BB,bb;have ad:∀(n':Nat) (w2:oj (D×Nat)) (aa:oj V) (H3:Hp),ia H H3->H3 L=u_ (.lst aa)->IsL H3 (w2.map pr) aa->(j<=12->n'<=600->G w2 n'=isT d)->(12<j∨600<n'->isT d=V6)->↑w2<=1+40*n'->ndL (w2.map (·.1))<ndL ((w'++ [(e,j)]).map (·.1))->
    BB [u_ v,u_ (V.int (n':Int)),u_ (V.ref L),u_ x,u_ y,u_ (V.int (j:Int))] H3:=by
   intro n' w2 aa H3 s3 l3 i3 g3 b3 al m3;have bad:isT d=V6->Q (.bl V6) H3:=λe=>by
    have q:=k H3 s3;rwa[e] at q
   refine bb _ _ ?_
   exists 0,_,0,1,0;refine lL (λc=>lC (bad (b3 (.inl ?_)))) (λc=>⟨0,_,0,1,0,?_⟩)
   ·have:=uw c;omega
   ·have c':¬(12:Int)<(j:Int):=λq=>c (A6 q);refine lL (λc2=>bad (b3 (.inr ?_))) (λc2=>?_)
    ·have:=uw c2;omega
    ·have au:¬(600:Int)<(n':Int):=λq=>c2 (A6 q);exact⟨_,m3,n',w2,aa,_,_,0,s3,l3,i3,g3 () (),(),al,1⟩
  exists 0,y,"tuple",tyD e,zQ e,1,hy.ty,xZ e,0;cases e with
  |tup xs=>
   refine lC ?_;erw[hy,a0,vs,rfl,ac,ag];have lv:=↑ag
   exists 0,_,↑vs,1,.inr [vs:SqT.of ac:1],_,0,1,0;refine lL (λc=>?_) (λc=>?_)
   ·have c':(↑vs:Int)<=40:=uw c
    exists 0,_,0,1
    exists 0,.inl [1:_:SqL.of U],0,a0,vs,1,SqT.of ac,λaw A0 ah=>?_;refine sU (tl:= [u_ (.int (j:Int))]) (λZ=> .tup [Z,.int ((j+1:Nat):Int)]) ac ag (fits ()) ah (λZ x0 H3 R _ s3 i3 r=>?_) λH3 ys s3 l3 i3=>?_
    ·exists 0,0,_,0,1,(sml rfl),λp hp=>?_;exact r _ _ (qf hp _) (Is.new (ds:= [Z,.int ((j+1:Nat):Int)]) ⟨x0,0,i3,_,0,1,1⟩ hp)
    ·have ly:=↑i3;rw[ud] at ly;have eA:A0≠L:=λz=>by rw[z,U] at ah;cases ah
     exists L,A0,us,ys,1,1,s3 _ _ U,l3,fits ()
     have t4:Tk H3 (upd H3 L (.lst (us++ys))):=Tk.updL (s3 _ _ U);have em:(w'++xs.map λZ=>(Z,j+1)).map pr=w'.map pr++xs.map λZ=> .tup [Z,.int ((j+1:Nat):Int)]:=by
      rw[uD,uU];rfl
     have ef:(w'++xs.map λZ=>(Z,j+1)).map (·.1)=w'.map (·.1)++xs:=by
      rw[uD,uU]
      congr 1
      exact HD xs
     refine ad (n+1) (w'++xs.map λZ=>(Z,j+1)) (us++ys) _ (λb o z=>by rw[qj (qk z ak)];exact s3 b o (O b o z)) qg (by rw[em];exact((af.mono s3.tk).mono t4).append (i3.mono t4)) (λh1 h2=>?_) (λh=>?_) ?_ ?_
     ·rw[<-hG,AcY () h1]
     ·rw[<-hG];rcases h with h|h
      ·exact MX h
      ·exact AbI h
     ·rw[uB,ud];omega
     ·rw[ef,hm,zB];simp![nd];omega
   ·have c':¬(↑vs:Int)<=40:=λq=>c (A6 q)
    exists 0,_,.tup xs,1,(show Is _ (.tup xs) (.ref a0) from⟨a0,vs,1,ac,ag⟩),0
    refine iP ?_;refine no O hG (P0 ?_);simp![iK];rw[ue ()]
    rfl
  |str z=>
   refine iP ?_;erw[hy,rfl,hz]
   exists 0,_,.str z,1,[1:hz],0;cases ht:QB z with
   |false=>
    have e1:LF (.str z)=false:=ht;rw[e1];refine iP ?_;refine no O hG (P0 ?_);simp![iK];exact ht
   |true=>
    have e1:LF (.str z)=true:=ht;rw[e1];refine lC ?_
    exists 0,0,_,↑z,1,[hz:1],_,0,1,_,0,1;have en:(n:Int)+(1+(↑z:Int))=((n+(1+↑z):Nat):Int):=by omega
    show BB [u_ v,u_ (V.int ((n:Int)+(1+(↑z:Int)))),u_ (V.ref L),u_ x,u_ (V.str z),u_ (V.int (j:Int))] _;rw[en];refine ad (n+(1+↑z)) w' us _ O U af (λh1 h2=>?_) (λh=>?_) () (by rw[hm];simp![nd];omega)
    ·rw[<-hG,AcZ ht h1]
    ·rw[<-hG];rcases h with h|h
     ·exact MX h
     ·refine AbJ ?_;simp![sz];omega
  |_=>
   refine iP ?_
   exact⟨0,_,0,hy,0,iP (no O hG (P0 rfl))⟩
nonrec def LET:Str:="abcdefghijklmnopqrstuvwxyz"
nonrec def NSG:Str:="abcdefghijklmnopqrstuvwxyz0123456789./"
nonrec def nm (z:Str):Bool:=decide (1<=(↑z:Int))&&decide ((↑z:Int)<=24)&&inS ⟨#[z.cps.getD 0 0]⟩ LET&&(z.cps.toList.map λc=>inS ⟨#[c]⟩ NSG).all id
nonrec def mG:D->Bool
 | .str z=>nm z
 |_=>V6
inductive NA:Sp
 |mk (v:_)(d:_)(_:vs= [v])(_:Is H d v)(_:∀H',ia H H'->Q (.bl (mG d)) H')
def By (h:1<=↑z):atI z.cps.toList 0=u_ (z.cps.getD 0 0):=by
 have h':0<z.cps.size:=h;have q:z.cps.toList[0]? =u_ (z.cps.getD 0 0):=by simp[Array.getD,h']
 exact qE q
def Abs (z:Str):(z.cps.toList.map λc=>V.bl (inS ⟨#[c]⟩ NSG))=(z.cps.toList.map λc=>inS ⟨#[c]⟩ NSG).map V.bl:=by
 rw[uU]
 rfl
def Bc (h:¬(1<=(↑z:Int)/\(↑z:Int)<=24)):nm z=false:=by
 unfold nm;by_cases h1:1<=(↑z:Int)
 ·have h2:¬(↑z:Int)<=24:=λq=>h [h1:q];rw[ue h2];simp
 ·rw[ue h1];simp
def Bd (h:inS ⟨#[z.cps.getD 0 0]⟩ LET=V6):nm z=false:=by
 unfold nm;rw[h];simp
def DU (h1:1<=(↑z:Int))(h2:(↑z:Int)<=24)(h:inS ⟨#[z.cps.getD 0 0]⟩ LET=v_):nm z=(z.cps.toList.map λc=>inS ⟨#[c]⟩ NSG).all id:=by
 unfold nm;rw[h,A6 h1,A6 h2];simp
def zu:#[T,1,a.f_is_name,a.d_is_name,["value"],NA]:=by
 exists 9,T.io,BY
 erw[h,x,d,rfl,hv,k];exists 3,%[@qI _ _ _ _ _ _ _ _ #[Xp,#[Qv,#[Qh,#[qx,#[Qb,2,rfl],T.qS,vd,#v[pv 0,#[yc,.ty "str",T.Zi,UB]]]]],#[jq,#[Qv,#[AR,12,Dw,Dw,qh,#[qx,Zp,T.Q0,uL,#v[pv 0]],#[Kk,T.zS],_]]]].pt %[|#[qp,YV]] qr,#[qI,#[qm,8,ot,#[qF,Bp,pv 0,qh],#[Aaw,4,_,T.m_LETTERS,_],#[w]],%[|#[qp,YV]],qr]|#[qp,#[qx,#[Jy,1,rfl],T.z_all,h_,#v[#[xN,["sign"],(1),[],Sl,#[Mn,4,pv 0],(λ_ _ _ _ _ _=>#[qN,(0),(show Vl (["sign"]:oj Str) by decide+kernel)]),(λ_ _ _ _ _ _=>#[Qg,8,Dx,pv 0,#[Aaw,4,_,T.m_NAME_SIGNS,_],#[w]])]]]]]
 exists 0,x,"str",tyD d,isStr d,1,hv.ty,jR d,0;cases hd:isStr d with
 |false=>
  refine lC (lC ?_);have:=k H (ia.refl H);have e:mG d=false:=by cases d<;>first|rfl|simp[isStr] at hd
  rwa[e] at this
 |true=>
  obtain⟨z,rfl⟩:∃z,d= .str z:=by cases d<;>simp[isStr] at hd;exact⟨0⟩
  erw[hv,rfl,U];have k:∀H',ia H H'->Q (.bl (nm z)) H':=k;refine iP ?_
  exists 0,z,1,U,_,0,1,0;have stop:nm z=V6->Q (.bl V6) H:=λe=>by
   have:=k H (ia.refl H);rwa[e] at this
  refine lL (λZ=>?_) (λZ=>?_)
  ·have aa:1<=(↑z:Int):=uw Z
   exists _,0,1,0;by_cases O:(↑z:Int)<=24
   ·rw[A6 O];refine iP ?_
    exists 0,_,_,0,1,U,By (),_,0,1,0
    cases e:inS ⟨#[z.cps.getD 0 0]⟩ LET with
    |false=>
     have e':(!(Hl ("abcdefghijklmnopqrstuvwxyz":Str) ⟨#[z.cps.getD 0 0]⟩ 0 ("abcdefghijklmnopqrstuvwxyz":Str).length 1).isEmpty)=false:=e;rw[e'];refine lC ?_;exact stop (Bd e)
    |true=>
     have e':(!(Hl ("abcdefghijklmnopqrstuvwxyz":Str) ⟨#[z.cps.getD 0 0]⟩ 0 ("abcdefghijklmnopqrstuvwxyz":Str).length 1).isEmpty)=true:=e;rw[e'];refine iP ?_
     exists 0,z,1,λD hD=>?_;refine AaY (λc=> .bl (inS ⟨#[c]⟩ NSG)) (U) hD (λi c H' R hc sm r=>⟨0,_,0,1,r⟩) λH' sm hl=>?_
     exists D,z.cps.toList.map λc=>inS ⟨#[c]⟩ NSG,1,SqL.of (by rw[hl,Abs])
     have:=k H' sm;rwa[DU aa O e] at this
   ·rw[ue O];refine lC ?_;exact stop (Bc λq=>O q.2)
  ·exists 0;refine lC ?_;exact stop (Bc λq=>Z (A6 q.1))
end
nonrec def Sk:om Pt->D
 |none=> .non
 |some p=>p.d
inductive Nw:Sp
 |mk (n:Nat)(kd:Kd)(z:Str)(_:vs= [.str kd.t,.str z,.int (n:Int)])(_:n<=40)(_:↑z<=300)(_:∀(v:V)(H':Hp),ia H H'->Is H' (Sk (Ya n kd z)) v->Q v H')
inductive C0 (K:PySem.W.Frag):Sp
 |mk (z:Str)(ks:List Kd)(q:Addr)(_:vs= [.str z,.ref q])(_:↑z<=300)(_:↑ks<=3)(_:SqT K H q (ks.map λk=>V.str k.t))(_:∀p,H p=U_->Q (.ref p) (upd H p (.lst ((pcs ks z).map V.str))))
def Qw {c:Bool}{A B:Prop}(h:c=V6)(b:B):if c=v_ then A else B:=by rw[A2 (by rw[h];exact uc)];exact b
def QM {c:Bool}{A B:Prop}(h:c=v_)(a:A):if c=v_ then A else B:=by rw[A3 h];exact a
def zT (ks:oj Kd):(ks.map λk=>V.str k.t)=(ks.map Kd.t).map V.str:=by rw[uU];rfl
def Ip (ks:oj Kd):inV (.str "words") (ks.map λk=>V.str k.t)=decide (Kd.words∈ks):=by
 rw[zT,jd,vc,Ac];constructor
 ·rintro⟨k,O,e⟩;cases k with
  |words=>exact O
  |box=>exact A7 e ()
  |line=>exact A7 e ()
 ·intro h;exact[_:h:1]
def Bw:∀x∈FRM,↑x.2<=3:=by decide+kernel
def KU (h:z∉BX):Ya n .box z=none:=by
 unfold Ya;exact A2 h
def XZ (h:z∈BX):Ya n .box z=u_ (.s z):=by
 unfold Ya;exact A3 h
def Ww (h:z∉(Vh n).map λi:Nat=>(Vi (1+(i:Int)):Str)):Ya n .line z=none:=by
 unfold Ya;rw[tX,Ul];intro i hi e;exact h (Ac.mpr [i:hi:uw e])
def xj (h:z∈(Vh n).map λi:Nat=>(Vi (1+(i:Int)):Str)):∃j:Int,1<=j/\j<=n/\z=(Pt.n j).t/\Ya n .line z=u_ (.n j):=by
 erw[Ac.mp h,i,hi,e];unfold Ya;cases O:(Vh n).find? λi:Nat=>decide ((Vi (1+(i:Int)):Str)=z) with
 |none=>exact A7 (A6 e) (List.find?_eq_none.mp O i hi)
 |some j=>
  have h1:=HN O;have h2:=List.mem_range.mp (vZ O);exact⟨1+(j:Int),(),(),(uw h1).symm,by show rJ _ _=_;rw[O];rfl⟩
section
variable {P:o9}{w:og}{K:o0}{mg:Str->om o6}{base:o8}{a:Ad}{g:Ga}
def OD:#[C,1,a.f_part_of,a.d_part_of,["kind","piece","count"],Nw]:=by
 exists 9,T.mX,ko
 erw[h,n,kd,z,rfl,hn,hz,k];exists 3,%[#[qI,#[qm,Qr,pv 0,ql],%[|#[qp,pv 1]],qr],#[qI,#[qm,Qr,pv 0,ql],%[|#[qp,#[Q6,#[qm,8,QF,pv 1,#[pe_gR,C.m_BOXES],#[w]],pv 1,qT]]],qr],#[AS,2,["number"],(1),[],(3),12,ko.nd,rfl,Go rfl,Sl,rfl,#[nY,7,_,T.jI,#v[qh,#[qY,yi,pv 2,qh]],_,_],(λ_ _ _ _ _ _=>#[qN,(0),(show Vl (["number"]:oj Str) by decide+kernel)]),(λ_ _ _ _ _ _=> @yp _),(λ_ _ _ _ _ _=>#[qW,Y9,T.Zi,UB,#v[pv 0]]),_,_,_]|#[qp,#[Q6,#[qm,8,QF,pv 1,pv 3,#[w]],#[qW,Ia,T.z_int,boot_int,#v[pv 1]],qT]]]
 exists 0,1,0;cases kd with
 |words=>
  refine QM () [0:?_]
  exact k _ H (ia.refl _) [1:yL ()]
 |box=>
  refine Qw () ⟨0,1,0,?_⟩
  refine QM () ⟨0,g.boxes,0,.inr (C.boxes _),1,JV _,0,?_⟩
  rw[A2 uc,jd];refine lL (λc=>?_) (λc=>?_)
  ·have U:z∈BX:=uw c;rw[XZ U] at k;exact[0:k _ H (ia.refl _) [1:yL ()]]
  ·have U:z∉BX:=λq=>c (A6 q);rw[KU U] at k;exact k _ H (ia.refl _) rfl
 |line=>
  refine Qw () ⟨0,1,0,?_⟩
  refine Qw () ?_
  exists 0,_,0,1,(1),(n:Int)+1,1,⟨(),(),(),()⟩,λL hL=>?_
  rw[show((n:Int)+1-1).toNat=n by omega]
  refine zj (lo:=1) (tl:= []) (λi ys H'=>ys=(Vh i).map (λi:Nat=>V.str (Vi (1+(i:Int))))/\ia H H') (fits ()) [1:qf hL _] ?_ ?_
  ·rintro i ys H' hi ⟨rfl,sm⟩ O Z R hR
   exists 0,0,?_,hR _ _ O [?_:?_]
   ·have h1:(1+(i:Int)).natAbs<=41:=by omega
    have h2:=V2 (1+(i:Int)).natAbs;omega
   ·rw[tW,uD]
    rfl
   ·intro b o e;rw[qj (qk e hL)];exact sm b o e
  ·rintro ys H' ⟨rfl,sm⟩ O;have Z:(Vh n).map (λi:Nat=>V.str (Vi (1+(i:Int))))=((Vh n).map λi:Nat=>(Vi (1+(i:Int)):Str)).map V.str:=by rw[uU];rfl
   exists 5
   refine⟨0,0,L,0,.inl (SqL.of O),1,by rw[Z];exact JV _,0,?_⟩
   rw[A2 uc,Z,jd];refine lL (λc=>?_) (λc=>?_)
   ·erw[xj (uw c),j,j1,j2,rfl,ej];rw[ej] at k;have hj:=oC j1 ()
    exact⟨0,_,j,1,Ku j1 (),uT hj.1 (),k _ _ sm rfl⟩
   ·rw[Ww λq=>c (A6 q)] at k;exact k _ _ sm rfl
def DK:#[T,1,a.Z1,a.wp,["line","form"],(C0 K)]:=by
 exists 9,T.mH,nN,Z
 erw[h,z,ks,q,rfl,hz,hk,U,k];exists 3,%[#[qI,#[qm,8,QF,ql,pv 1,#[w]],%[|#[qp,#[jk,uX,Ug,Uh,D0,pv 0,#v[ql,#[qx,qD,T.Q0,uL,#v[pv 1]]]]]],qr]|#[qp,#[jk,uX,Ug,Uh,Bg,pv 0,#v[ql]]]]
 exists 5
 refine⟨0,q,0,.inr U,1,by rw[zT];exact JV _,0,?_⟩
 rw[A2 uc,Ip];unfold pcs at k;refine lL (λc=>?_) (λc=>?_)
 ·have O:Kd.words∈ks:=uw c;rw[A3 O] at k;have h0:0<↑ks:=List.length_pos_iff.mpr λe=>by rw[e] at O;simp at O
  exact⟨0,1,0,q,0,.inr U,_,↑ks,1,by rw[ud],(),h0,(),k⟩
 ·have O:Kd.words∉ks:=λz=>c (A6 z);rw[A2 O] at k;exact⟨0,1,0,1,(),k⟩
nonrec def Adb:om Rw->D
 |none=> .non
 |some r=>rowD r
nonrec def Qt (n:Nat):D->om Rw
 | .str z=>wM n z
 |_=>U_
inductive CZ:Sp
 |mk (v:V)(d:D)(n:Nat)(_:vs= [v,.int (n:Int)])(_:Is H d v)(_:n<=40)(_:∀(v':V)(H':Hp),ia H H'->Is H' (Adb (Qt n d)) v'->Q v' H')
def B6:∀{d:D},LF d=V6->Qt n d=U_
 | .str z,h=>by
  show wM n z=U_;unfold wM;exact A2 (by rw[show QB z=V6 from h];exact uc)
 | .non,_=>rfl
 | .int _,_=>rfl
 | .bl _,_=>rfl
 | .lst,_=>rfl
 | .dct,_=>rfl
 | .tup _,_=>rfl
def Nc:∀{d:D},LF d=v_->∃z,d= .str z
 | .str z,_=>[z:1]
nonrec def Ja (n:Nat)(ks:oj Kd)(zs:oj Str):oj (om Pt):=List.zipWith (Ya n) ks zs
def W8 {n:Nat}:∀{ks:oj Kd}{zs:oj Str},(Ja n ks zs).any G_=v_->Yh n ks zs=U_
 | [],_,h=>by simp[Ja] at h
 |_::_,[],h=>by simp[Ja] at h
 |k::ks,z::zs,h=>by
  rw[Ja,Ts,Ut,Ho] at h;unfold Yh;rcases h with h|h
  ·rw[Option.isNone_iff_eq_none.mp h]
  ·rw[W8 h];split
   ·rename_i h1 h2;cases h2
   ·rfl
def W9 {n:Nat}:∀{ks:oj Kd}{zs:oj Str},↑zs=↑ks->(Ja n ks zs).any G_=V6->∃ps,Yh n ks zs=u_ ps/\Ja n ks zs=ps.map u_
 | [],[],_,_=>[[]:1:1]
 | [],_::_,hl,_=>by simp at hl
 |_::_,[],hl,_=>by simp at hl
 |k::ks,z::zs,hl,h=>by
  rw[Ja,Ts,Ut,Bool.or_eq_false_iff] at h;obtain⟨ps,O,U⟩:=W9 (ks:=ks) (zs:=zs) (by simpa using hl) h.2
  cases e:Ya n k z with
  |none=>rw[e] at h;cases h.1
  |some p=>
   exists p::ps,?_,?_
   ·unfold Yh;rw[e,O]
   ·rw[Ja,Ts,e,uC]
    congr 1
def L9 {H:Hp}:∀{os:oj (om Pt)}{vs:oj V},L2.IsL H (os.map Sk) vs->vs.all ZQ=v_/\inV .non vs=os.any G_
 | [],_,h=>by cases(show _= [] from h);exact[1:1]
 |q::ps,_,h=>by
  erw[h,v,r,rfl,h1,h2];erw[L9 h2,U,Z];have O:ZQ v=v_/\eqV v .non=q.isNone:=by
   cases q with
   |none=>cases(show v= .non from h1);exact[1:1]
   |some q=>
    cases q with
    |s z=>erw[h1,rfl,_];exact[1:1]
    |n i=>cases(show v= .int i from h1);exact[1:1]
  exists ?_,?_
  ·rw[vv,O.1,U];rfl
  ·show(eqV v .non||inV .non r)=_
   rw[O.2,Z];rfl
def Dg {α:Type}(l:oj α)(h:α->D)(f:Nat->D)(O:∀i q,l[i]? =u_ q->f i=h q):(Vh ↑l).map f=l.map h:=by
 apply List.ext_getElem
 ·simp
 ·intro i h1 h2;simp![ud,RL] at h1;simp![List.getElem_map,List.getElem_range];exact O i l[i] (um h1)
def DI:#[C,2,a.f_row_of,a.d_row_of,["line","count"],CZ]:=by
 have Wm:=#[kh,T];have Z:=#[OD,T,C];have O:=#[DK,T];refine T.oQ.F.ok JG () (λ_ _ _ _ H vs Q E hr h=>?_)
 erw[h,v,d,n,rfl,hv,hn,k];exists 3,%[#[qI,#[Qv,#[Qh,#[qv,Wm,T.mC,#v[pv 0]]]],%[|#[qp,qT]],qr],#[qG,(2),JG.nd,#[qF,qz,#[jk,uX,PySem.F.slot_str_partition,PySem.F.type_str_partition,O8,pv 0,#v[ql]],qh]],#[qI,#[qm,8,Oo,pv 2,#[pe_gR,C.m_FORMS],#[w]],%[|#[qp,qT]],qr],#[qG,(3),JG.nd,#[qF,Ade,#[pe_gR,C.m_FORMS],pv 2]],#[qG,(4),JG.nd,#[qv,O,T.mH,#v[pv 0,pv 3]]],#[qI,#[qm,ou,#[qx,qD,T.Q0,uL,#v[pv 4]],#[qY,yi,qh,#[qx,qD,T.Q0,uL,#v[pv 3]]]],%[|#[qp,qT]],qr],#[qG,(5),JG.nd,#[qW,qZ,T.QH,vn,#v[#[xN,["kind","piece","count"],(2),[1],Ea (qi ZU) ["line","count","word","form","pieces","parts"],#[Aas,9,_,T.z_zip,#v[pv 3,#[Ys,KI,pv 4,#[YM,qh],JC]],_,_],(λ_ _ _ _ _ _=>#[Ko,1,K,3,(2),1,rfl,rfl,Qe #[qN,(0),(show Vl (["kind","piece","count"]:oj Str) by decide+kernel)] (Qe #[qN,(1),(show Vl (["kind","piece","count"]:oj Str) by decide+kernel)] YH),_,_]),(λ_ _ _ _ _ _=>#[qv,Z,T.mX,#v[pv 0,pv 1,pv 2]])]]]]|#[qp,#[Q6,#[qm,8,QF,qT,pv 5,#[w]],qT,#[qB,#v[pv 2,pv 5]]]]]
 exists 0,v,d,1,hv,0;cases e0:LF d with
 |false=>
  rw[B6 e0] at k;exact QM rfl (k _ H (ia.refl _) rfl)
 |true=>
 erw[Nc e0,z,rfl];erw[hv,rfl,aq];have ht:QB z=true:=e0;have hz:↑z<=300:=by
  have U:=ht;unfold QB at U;rw[uF,ve] at U;exact U.1
 have k:∀(v':V) (H':Hp),ia H H'->Is H' (Adb (wM n z)) v'->Q v' H':=k;refine Qw rfl ?_
 exists 0,1,0,1,(),λt1 x1 x2 g1=>?_
 exists t1,_,(0),0,1,SqT.of qg,1;have s1:ia H (upd H t1 (.tup [.str (hd z),.str x1,.str x2])):=qf g1 _;generalize upd H t1 (.tup [.str (hd z),.str x1,.str x2])=H1 at s1⊢;unfold wM at k;rw[A3 ht] at k;cases ef:xl (hd z) with
 |none=>
  rw[ef] at k
  exact⟨0,hd z,g.forms,0,1,C.kd,C.none_ _ ef,0,QM rfl (k _ _ s1 rfl)⟩
 |some ks=>
 have hk:=Ze ef;rw[ef] at k;simp only at k;erw[C.forms _ hk,q,ag,aa];have hf:↑ks<=3:=Bw _ hk
 exists 0,hd z,g.forms,0,1,C.kd,ag,0;refine Qw rfl ?_
 exists 0,hd z,g.forms,_,.ref q,1,1,C.kd,ag,1
 exists 0,0,z,ks,q,1,hz,hf,aa _,λp2 g2=>?_;have s2:ia H1 (upd H1 p2 (.lst ((pcs ks z).map V.str))):=qf g2 _;have e2:(upd H1 p2 (.lst ((pcs ks z).map V.str))) p2=u_ (.lst ((pcs ks z).map V.str)):=qg;generalize upd H1 p2 (.lst ((pcs ks z).map V.str))=H2 at s2 e2⊢
 exists 0,p2,0,.inl (SqL.of e2),0,q,0,.inr (aa _),_,0,1,1,0;by_cases hl:↑(pcs ks z)=1+↑ks
 case neg=>
  rw[A2 hl] at k;refine QM ?_ (k _ _ (s1.trans s2) rfl);rw[ud,ud];show(!decide (V.int _=V.int _))=v_;rw[ue]
  ·rfl
  ·intro q;have:(↑(pcs ks z):Int)=1+(↑ks:Int):=V.int.inj q;omega
 rw[A3 hl] at k;refine Qw ?_ ?_
 ·rw[ud,ud,show(↑(pcs ks z):Int)=1+(↑ks:Int) by omega]
  simp
 have ae:↑((pcs ks z).drop 1)=↑ks:=by rw[vN];omega
 have ah:∀p∈(pcs ks z).drop 1,↑p<=300:=λp hp=>by
  have U:=ht;unfold QB at U;rw[uF,ve] at U;exact(Md U.1 U.2 p (U1 hp)).1
 exists 0,0,0,p2,0,SqL.of e2,λp3 g3=>?_;have ak:ni ((pcs ks z).map V.str) (u_ 1) U_=((pcs ks z).drop 1).map V.str:=by
  rw[show(u_ (1:Int))=u_ (((1:Nat)):Int) from rfl,JU (by rw[ud];omega),tV]
 rw[ak];generalize (pcs ks z).drop 1=zs at ae ah k⊢;have s3:ia H2 (upd H2 p3 (.lst (zs.map V.str))):=qf g3 _;have e3:(upd H2 p3 (.lst (zs.map V.str))) p3=u_ (.lst (zs.map V.str)):=qg;generalize upd H2 p3 (.lst (zs.map V.str))=H3 at s3 e3⊢;have am:↑(Ja n ks zs)=↑ks:=by rw[Ja,List.length_zipWith];omega
 exists q,p3,_,0,aa _,SqL.of e3,λA1 gA=>?_;refine AaX (K:=K) (tl:= [u_ (.int (n:Int))]) (xs:=ks.map λk:Kd=>V.str k.t) (ys:=zs.map V.str) (λi=>Sk ((Ja n ks zs).getD i U_)) (λH' _=>aa H') (λH' sm=>SqL.of (sm _ _ e3)) (by simp[ae]) (by rw[ud];exact yL ()) gA ?_ ?_
 ·intro i x y H4 R hx hy s4 hR;rw[uM] at hx hy;cases af:ks[i]? with
  |none=>rw[af] at hx;cases hx
  |some kd=>
   rw[af] at hx;cases hx;cases ac:zs[i]? with
   |none=>rw[ac] at hy;cases hy
   |some z1=>
    rw[ac] at hy;cases hy
    exists 0,0,0,n,kd,z1,1,hn,ah _ (vj ac),λv H5 s5 hv=>hR v H5 s5 ?_;have e:(Ja n ks zs).getD i U_=Ya n kd z1:=by simp[VW,Ja,List.getElem?_zipWith,af,ac]
    simp![e];exact hv
 intro H5 vs s5 e5 h5;have al:L2.IsL H5 ((Ja n ks zs).map Sk) vs:=by
  rw[ud,<-am] at h5;rw[Dg (Ja n ks zs) Sk _ (λi q1 hi=>by simp[VW,hi])] at h5
  exact h5
 exists A1,vs,1,.inl [SqL.of e5:λt6 g6=>?_];have s6:ia H5 (upd H5 t6 (.tup vs)):=qf g6 _;have i6:Is (upd H5 t6 (.tup vs)) (.tup ((Ja n ks zs).map Sk)) (.ref t6):=Is.new al g6;have e6:(upd H5 t6 (.tup vs)) t6=u_ (.tup vs):=qg;generalize upd H5 t6 (.tup vs)=H6 at s6 i6 e6⊢;erw[L9 al,f1,f2];have ad:=s1.trans (s2.trans (s3.trans (s5.trans s6)))
 exists 0,t6,vs,1,.inr (SqT.of e6),1,f1,0;rw[A2 uc,f2];refine lL (λc=>?_) (λc=>?_)
 ·rw[W8 c] at k;exact k _ _ ad rfl
 ·have c':(Ja n ks zs).any G_=false:=by
   cases h:(Ja n ks zs).any G_ with
   |false=>rfl
   |true=>exact A7 h c
  erw[W9 ae c',ps,q1,q2];rw[q1] at k;rw[q2,uU] at i6
  exists 0,0,(sml rfl),λt7 g7=>?_;have ao:↑(hd z)<=sizeLine:=by
   have ap:∀x∈FRM,↑x.1<=100:=by decide+kernel
   have:=ap _ hk;exact yL (by simp only at this;omega)
  exact k _ _ (ad.trans (qf g7 _)) (Is.new (ds:= [.str (hd z),.tup (ps.map Pt.d)]) ⟨_,0,[1:ao],_,0,i6,1⟩ g7)
def Dr {M:Nat}(hn:n<=40){k:Kd}{p:Pt}(h:Aar n M k p):Ya n k p.t=u_ p:=by
 cases k with
 |words=>
  cases p with
  |s z=>rfl
  |n i=>cases h
 |box=>
  cases p with
  |s z=>exact XZ h
  |n i=>cases h
 |line=>
  cases p with
  |s z=>cases h
  |n i=>
   have h1:1<=i/\i<=n:=h;have hm:(Pt.n i).t∈(Vh n).map λi:Nat=>(Vi (1+(i:Int)):Str):=Ac.mpr ⟨(i-1).toNat,List.mem_range.mpr (),by show(Vi (1+(((i-1).toNat:Nat):Int)):Str)=Vi i;rw[show 1+(((i-1).toNat:Nat):Int)=i by omega]⟩
   erw[xj hm,j,U,j2,Z,e];rw[e];have b1:=Ku (i:=i) h1.1 ()
   have b2:=Ku (i:=j) U ()
   have O:(Vi i:Str)=Vi j:=Z;rw[O,b2] at b1;rw[uN b1]
def WJ {n M:Nat}(hn:n<=40):∀{ks:oj Kd}{ps:oj Pt},Xc n M ks ps->Yh n ks (ps.map Pt.t)=u_ ps
 | [],[],_=>rfl
 |k::ks,p::ps,h=>by
  rw[uC];unfold Yh;rw[Dr hn h.1,WJ hn h.2]
 | [],_::_,h=>h.elim
 |_::_,[],h=>h.elim
variable {ks:oj Kd}
def ED {w:Str}(h:(w,ks)∈FRM):xl w=u_ ks:=by
 cases e:xl w with
 |none=>exact A7 rfl (We e _ h)
 |some O=>
  have:=EC _ (Ze e) _ h rfl;rw[(Prod.mk.inj this).2]
variable {r:Rw}
def B5 {M:Nat}(hn:n<=40)(h:Jb n M r)(Z:QB (Yc r)=v_):wM n (Yc r)=u_ r:=by
 have hh:=Pa h;erw[h,ks,U,O];unfold wM;rw[A3 Z,hh,ED U];simp only;have hs:pcs ks (Yc r)=txs r:=LB hn U O;have hl:=ZJ O;rw[hs,A3 (by unfold txs;rw[uu,ud];omega)]
 show rJ _ (Yh n ks (r.2.map Pt.t))=_;rw[WJ hn O]
 rfl
nonrec def Ji (rs:oj Rw):D:= .tup (rs.map λr=> .str (Yc r))
structure ya (rs:oj Rw):Prop where
 n0:1<=↑rs
 n1:↑rs<=40
 ok:∀r∈rs,Jb ↑rs 300 r
 tree:isT (Ji rs)=v_
def oP:∀{ds:oj D}{d:D},goodL ds=v_->d∈ds->iK d=v_
 |x::xs,d,h,hm=>by
  simp![goodL,uF] at h;rcases A9.mp hm with rfl|hm
  ·exact h.1
  ·exact oP h.2 hm
variable {rs:oj Rw}
def ya.text (h:ya rs)(O:r∈rs):QB (Yc r)=true:=by
 have h1:=h.tree;unfold isT at h1;rw[uF,uF] at h1;have h2:=h1.1.1;unfold Ji at h2;simp![iK,uF] at h2;have:=oP h2.2 (Ac.mpr [r:O:1])
 simpa only [iK] using this
nonrec def QI:D->om (oj Rw)
 | .tup ds=>if(decide (1<=↑ds)&&decide (↑ds<=40)&&ds.all (λd=>(Qt ↑ds d).isSome)&&isT (.tup ds))=v_ then u_ (ds.filterMap (Qt ↑ds)) else U_
 |_=>U_
def XL (ds:oj D):QI (.tup ds)=if(decide (1<=↑ds)&&decide (↑ds<=40)&&ds.all (λd=>(Qt ↑ds d).isSome)&&isT (.tup ds))=v_ then u_ (ds.filterMap (Qt ↑ds)) else none:=rfl
def nU {n:Nat}:∀{rs:oj Rw},(∀r∈rs,Qt n (.str (Yc r))=u_ r)->(rs.map λr=>D.str (Yc r)).filterMap (Qt n)=rs
 | [],_=>rfl
 |r::rs,h=>by
  rw[uC,U4 (h r uj),nU λx O=>h x (ui _ O)]
def ya.rowD (h:ya rs)(O:r∈rs):Qt ↑rs (.str (Yc r))=u_ r:=B5 h.n1 (h.ok r O) (h.text O)
def ya.read (h:ya rs):QI (Ji rs)=u_ rs:=by
 have Z:↑(rs.map λr=>D.str (Yc r))=↑rs:=ud ..;have U:=h.tree;unfold Ji at U⊢;rw[XL,Z,A3]
 ·rw[nU λr O=>h.rowD O]
 ·rw[A6 h.n0,A6 h.n1,U,List.all_eq_true.mpr]
  ·rfl
  ·intro d hd;erw[Ac.mp hd,r,O,rfl];rw[h.rowD O]
   rfl
nonrec def Adm (d x y:D):Prop:=(∀rs,QI d=u_ rs->x= .tup (rs.map L2.rowD)/\y= .non)/\(QI d=U_->∃i:Int,y= .int i)
inductive Nu:Sp
 |mk (v:V)(d:D)(_:vs= [v])(_:Is H d v)(_:∀(u:V)(H':Hp)(x y:D),ia H H'->Adm d x y->Is H' (.tup [x,y]) u->Q u H')
def De {d x:D}{i:Int}(h:QI d=U_):Adm d x (.int i):=⟨λrs e=>(by rw[h] at e;cases e),λ_=>[i:1]⟩
def XY {α:Type}{o:om α}(h:o.isSome=v_):∃x,o=u_ x:=by cases o with
 |none=>cases h
 |some x=>exact[x:1]
variable {ds:oj D}
def Da {d:D}(h1:ds[i]? =u_ d)(h2:Qt n d=u_ r):(ds.take (i+1)).filterMap (Qt n)=(ds.take i).filterMap (Qt n)++ [r]:=by
 rw[vx,h1,List.filterMap_append];simp[h2]
def AI {n:Nat}:∀{ds:oj D},(∀z∈ds,(Qt n z).isSome=v_)->↑(ds.filterMap (Qt n))=↑ds
 | [],_=>rfl
 |z::ds,h=>by
  erw[XY (h z uj),r,e];rw[U4 e,uu,uu];exact A8 (·+1) (AI λy O=>h y (ui _ O))
def DJ:#[C,3,a.Zw,a.Zv,["value"],Nu]:=by
 have yG:=#[jo,T];have aa:=#[DI,T,C];refine T.lQ.F.ok Yq () (λ_ _ _ _ H vs Q E hr h=>?_)
 erw[h,v,d,rfl,hv,k];exists 3,%[@qI _ _ _ _ _ _ _ _ #[Xp,#[Qv,#[Qh,#[qx,#[Qb,2,rfl],T.qS,vd,#v[pv 0,#[yc,.ty "tuple",T.QH,vn]]]]],#[jq,#[Qv,#[AR,12,Dw,Dw,qh,#[qx,qD,T.Q0,uL,#v[pv 0]],#[Kk,T.m_MOST_LINES],_]]]].pt %[|#[qp,#[qB,#v[#[qB,qd],qh]]]] qr,#[qG,(1),Yq.nd,#[Q9,qd]],#[Je,#[AU,4,pv 0],#[qN,(2),Yq.nd],%[#[qG,(3),Yq.nd,#[qv,aa,T.oQ,#v[pv 2,#[qx,qD,T.Q0,uL,#v[pv 0]]]]],#[qI,#[qm,yI,pv 3,qT],%[|#[qp,#[qB,#v[#[qW,qZ,T.QH,vn,#v[pv 1]],#[qY,yi,#[qx,qD,T.Q0,uL,#v[pv 1]],qh]]]]],qr]|#[Qd,#[jk,uW,vz,vA,Yz,pv 1,#v[pv 3]]]]]|#[qp,#[qB,#v[#[qW,qZ,T.QH,vn,#v[pv 1]],#[Q6,#[Qh,#[qv,yG,T.iC,#v[pv 0]]],qT,qh]]]]]
 exists 0,v,"tuple",_,zQ d,1,hv.ty,xZ d,0;have U:QI d=U_->∀(t:o3),H t=U_->∀t2,(upd H t (.tup [])) t2=U_->Q (.ref t2) (upd (upd H t (.tup [])) t2 (.tup [.ref t,.int 1])):=λhn t g t2 Z=>
  k _ _ (.tup []) (.int 1) ((qf g _).trans (qf Z _)) (De hn) (Is.new (ds:= [.tup [],.int 1]) ⟨_,0,Is.new (ds:= []) rfl g,_,0,1,1⟩ Z)
 cases ht:zQ d with
 |false=>
  have hn:QI d=none:=by
   cases d with
   |tup ds=>cases ht
   |_=>rfl
  exact lC (lC [(sml rfl):λt g1=>[(sml rfl):λt2 Z=>U hn t g1 t2 Z]])
 |true=>
 obtain⟨ds,rfl⟩:∃ds,d= .tup ds:=by
  cases d with
  |tup ds=>exact[ds:1]
  |_=>cases ht
 refine iP ?_;have ad:=hv;erw[ad,va,us,rfl,ha,hu];have ae:↑us=↑ds:=↑hu
 exists 0,va,us,1,.inr (SqT.of ha),_,0,1,0;have no:¬(1<=↑ds/\↑ds<=40/\(∀z∈ds,(Qt ↑ds z).isSome=v_)/\isT (.tup ds)=v_)->QI (.tup ds)=none:=λhc=>by
  unfold QI;refine A2 λz=>hc ?_;simp![uF,ve,Ub] at z;exact⟨z.1.1.1,z.1.1.2,z.1.2,z.2⟩
 by_cases c1:1<=↑ds
 case neg=>
  refine Qw (ue ()) [0:?_]
  exact lC [(sml rfl):λt g1=>[(sml rfl):λt2 Z=>U (no λz=>c1 z.1) t g1 t2 Z]]
 refine QM (A6 ()) ?_
 exists _,0,1,0;by_cases c2:↑ds<=40
 case neg=>
  refine QM (by rw[ue ()];rfl) ?_
  exact[(sml rfl):λt g1=>[(sml rfl):λt2 Z=>U (no λz=>c2 z.2.1) t g1 t2 Z]]
 refine Qw (by rw[A6 ()];rfl) ?_
 exists (sml rfl),λL1 g1=>?_
 exists 0,va,1,[us:SqT.of (qf g1 _ _ _ ha)]
 let J1_:Nat->L2.St->Hp->Prop:=λi σ H'=>i<=↑ds/\(∀z∈ds.take i,(Qt ↑ds z).isSome=v_)/\∃(ws:oj V) (x2 x3:om V),σ= [u_ (.ref va),u_ (.ref L1),x2,x3]/\H' L1=u_ (.lst ws)/\L2.IsL H' (((ds.take i).filterMap (Qt ↑ds)).map L2.rowD) ws/\ia H H'
 refine KA (K:=K) (a:=va) (xs:=us) J1_
  ⟨uP _,(λz hz=>by simp at hz),[],U_,U_,1,qg,1,qf g1 _⟩ (λi σ H' _ ⟨_,_,_,_,_,_,_,_,sm⟩=>SqT.of (sm _ _ ha)) ?_ ?_
 ·rintro i x σ H' hx ⟨ak,O,ws,x2,x3,rfl,e1,hw,sm⟩;have ac:i<↑ds:=by
   erw[Ae.mp hx,h,_];omega
  erw[hu.get (i:=i) (d:=ds[i]) (um ac),x',af,al];rw[hx] at af;cases af;have am:↑ws=i:=by
   rw[↑hw,ud,AI O,vM];omega
  exists 5
  refine⟨0,0,va,us,1,.inr (SqT.of (sm _ _ ha)),x,ds[i],↑ds,by rw[ae];rfl,al.mono sm.tk,c2,λv H2 s2 hv=>?_⟩
  have e2:=s2 _ _ e1;cases er:Qt ↑ds ds[i] with
  |some r=>
   rw[er] at hv;have hv:Is H2 (L2.rowD r) v:=hv;have ad:=hv;erw[ad,ag,ao,rfl,_,_]
   exists 0,1,0;refine Qw (ue λz=>by cases z) ?_
   exists 0,.inl [1:_:SqL.of e2],0,L1,ws,0,1,e2,X2 ()
   have t3:Tk H2 (upd H2 L1 (.lst (ws++ [.ref ag]))):=Tk.updL e2
   exists ac,λz hz=>?_,ws++ [.ref ag],_,0,qg,?_,λb o e=>?_
   ·rw[vx,um ac] at hz;rcases Ab.mp hz with hz|hz
    ·exact O z hz
    ·have:z=ds[i]:=by simpa using hz
     rw[this,er]
     rfl
   ·rw[Da (um ac) er,uD];exact((hw.mono s2.tk).mono t3).append (IsL.one (hv.mono t3))
   ·rw[qj (qk e g1)];exact s2 b o (sm b o e)
  |none=>
   rw[er] at hv;cases(show v= .non from hv)
   exists 0,1,0;refine QM rfl ?_
   exists 0,L1,ws,1,.inl [SqL.of e2:λt1 Z=>?_];have s3:ia H2 (upd H2 t1 (.tup ws)):=qf Z _;have i3:Is (upd H2 t1 (.tup ws)) (.tup (((ds.take i).filterMap (Qt ↑ds)).map L2.rowD)) (.ref t1):=Is.new (hw.mono s2.tk) Z
   exists 0,L1,ws,1,.inl (SqL.of (s3 _ _ e2)),_,0,1,(sml rfl),λt4 g4=>?_;exact k _ _ _ (.int _) (sm.trans (s2.trans (s3.trans (qf g4 _)))) (De (no λz=>by have:=z.2.2.1 _ (uO ac);rw[er] at this;cases this)) (Is.new (ds:= [.tup (((ds.take i).filterMap (Qt ↑ds)).map L2.rowD),.int _]) ⟨_,0,i3,_,0,1,1⟩ g4)
 ·rintro σ H' ⟨ak,O,ws,x2,x3,rfl,e1,hw,sm⟩;rw[ae,Uc] at hw O
  exists 0,L1,ws,1,.inl [SqL.of e1:λt1 Z=>?_];have s2:ia H' (upd H' t1 (.tup ws)):=qf Z _;have i2:Is (upd H' t1 (.tup ws)) (.tup ((ds.filterMap (Qt ↑ds)).map L2.rowD)) (.ref t1):=Is.new hw Z;generalize upd H' t1 (.tup ws)=H2 at s2 i2⊢
  exists 0,_,.tup ds,1,hv.mono (sm.trans s2).tk,λH3 s3=>?_
  exists 0;cases hT:isT (.tup ds) with
  |true=>
   refine QM rfl [(sml rfl):λt4 g4=>?_];have ah:QI (.tup ds)=u_ (ds.filterMap (Qt ↑ds)):=by
    rw[XL,A3];rw[A6 c1,A6 c2,hT,List.all_eq_true.mpr O]
    rfl
   exact k _ _ _ .non (sm.trans (s2.trans (s3.trans (qf g4 _)))) ⟨λrs e=>(by rw[ah] at e;cases e;exact[1:1]),λe=>(by rw[ah] at e;cases e)⟩ (Is.new (ds:= [.tup ((ds.filterMap (Qt ↑ds)).map L2.rowD),.non]) ⟨_,0,i2.mono s3.tk,_,0,1,1⟩ g4)
  |false=>
   refine Qw rfl [(sml rfl):λt4 g4=>?_];exact k _ _ _ (.int 1) (sm.trans (s2.trans (s3.trans (qf g4 _)))) (De (no λz=>by have:=z.2.2.2;rw[hT] at this;cases this)) (Is.new (ds:= [.tup ((ds.filterMap (Qt ↑ds)).map L2.rowD),.int 1]) ⟨_,0,i2.mono s3.tk,_,0,1,1⟩ g4)
inductive Nq (br:Addr)(vs:List V)(H:Hp)(Q:VK)(E:XK):Prop
 |mk (v:V)(d:D)(_:vs= [v])(_:Is H d v)(_:(∀rs,QI d=u_ rs->∀(u:V)(H':Hp),ia H H'->Is H' (.tup (rs.map L2.rowD)) u->Q u H'))(_:(QI d=U_->∀(e:Addr)(H':Hp),ia H H'->E (.ref e) (u_ br) H'))
def Oy (T:Tx K mg a)(C:Fx K w mg g a):FnOk P w K mg base (CX1 P w) 4 a.wq a.wc ["tree"] (Nq g.br):=by
 have Jh:=#[DJ,T,C];refine T.lj.F.okX Zj () (λ_ _ _ _ H _ Q E hr h=>?_)
 erw[h,v,d,rfl,hv,k,kB];exists 3,%[#[qG,(1),Zj.nd,#[qv,Jh,T.lQ,#v[pv 0]]],#[qI,#[qm,Wb,#[qF,qz,pv 1,qh],qT],%[|#[AT,22,C.x_BadRule,_,C.m_BadRule,ql,_,_]],qr]|#[qp,#[qF,qz,pv 1,qh]]]
 exists 0,v,d,1,hv,λu H1 x y s1 hd U=>?_
 exists 0
 try dsimp![tC]
 refine xT (i:=1) (d:=y) U rfl λz Z=>?_;cases O:QI d with
 |none=>
  erw[hd.2 O,i,rfl];cases(show z= .int i from Z)
  exists 1,0;refine QM (by rw[ue (λz=>by cases z)];rfl) ?_
  exact[1:λe=>kB O e H1 s1]
 |some rs=>
  erw[hd.1 rs O,rfl,rfl];cases(show z= .non from Z)
  exists 1,0;refine Qw rfl ?_
  exists 0
  try dsimp![tC]
  refine xT (i:=0) (d:= .tup (rs.map L2.rowD)) U rfl λq hq=>?_;exact k rs O q H1 s1 hq
nonrec def kvB (f:Str->V):oj (Key×V):=BX.map λz=>(Va z,f z)
def Sz {f:Str->V}:∀{zs:oj Str}{z:Str},z∈zs->iW (zs.map λz=>((Va z:Key),f z)) (Va z)=u_ (f z)
 |y::ys,z,h=>by
  rw[uC];by_cases e:y=z
  ·subst e;exact QQ rfl
  ·have h':z∈ys:=by
    rcases A9.mp h with rfl|h
    ·exact A7 rfl e
    ·exact h
   have:=Sz (f:=f) h';unfold iW at this⊢;rw[v5];have O:decide ((Va y:Key)=Va z)=false:=ue λq=>e (Um q);simp![O];exact this
def Acn {f:Str->V}{u:V}(h:z∈BX):l8 (kvB f) (Va z) u=kvB λy=>if y=z then u else f y:=by
 unfold l8;rw[A3]
 ·unfold kvB;rw[uU];refine UD λy _=>?_;by_cases e:y=z
  ·simp[e]
  ·simp[e]
 ·rw[rA];exact⟨(Va z,f z),Ac.mpr [z:h:1],by simp⟩
nonrec def Yr (H:Hp)(d:o3)(B:Str->D):Prop:=∃f:Str->V,H d=u_ (.dK (kvB f))/\∀z∈BX,Is H (B z) (f z)
nonrec def AG (B:Str->D)(z:Str)(e:D):Str->D:=λy=>if y=z then e else B y
variable {H H':Hp}
def Yr.same {d:o3}{B:Str->D}(h:Yr H d B)(s:ia H H'):Yr H' d B:=let⟨f,e,i⟩:=h;[f:s _ _ e:λz O=>(i z O).mono s.tk]
def Yr.move {d:o3}{B:Str->D}(h:Yr H d B)(t:Tk H H')(e:H' d=H d):Yr H' d B:=let⟨f,e1,i⟩:=h;[f:e.trans e1:λz O=>(i z O).mono t]
def Yr.get {d:o3}{B:Str->D}(h:Yr H d B)(O:z∈BX):∃v,m9 H d (.str z) (u_ v)/\Is H (B z) v:=by
 erw[h,f,e,i];exists f z,?_,i z O;have:=m9.k (k:=(Va z:Key)) e;rw[show iW (kvB f) (Va z)=u_ (f z) from Sz O] at this
 exact this
variable {e:D}
def Yr.put {d:o3}{B:Str->D}{u:V}(h:Yr H d B)(U:z∈BX)(Z:Is H e u):∃kvs,Il H d (.str z) u (upd H d (.dK kvs))/\Yr (upd H d (.dK kvs)) d (AG B z e)/\Tk H (upd H d (.dK kvs)):=by
 erw[h,f,O,i];refine⟨kvB λy=>if y=z then u else f y,.inl ⟨_,Va z,O,1,by show ↑BX<V9;rw[uI];decide,by rw[Acn U]⟩,[_:qg:λy hy=>?_],Tk.updD O⟩
 have t:Tk H (upd H d (.dK (kvB λy=>if y=z then u else f y))):=Tk.updD O
 unfold AG;by_cases c:y=z
 ·rw[A3 c,A3 c];exact Z.mono t
 ·rw[A2 c,A2 c];exact(i y hy).mono t
nonrec def xu:oj D->Bool
 | []=>v_
 | .str _::r=>xu r
 |_=>V6
nonrec def xi:oj D->oj Str
 | .str z::r=>z::xi r
 |_=> []
nonrec def b0 (ps:oj Pt):Str:=(ps.getD 0 (.s "")).t
nonrec def b1 (ps:oj Pt):Str:=(ps.getD 1 (.s "")).t
nonrec def b2 (ps:oj Pt):Str:=(ps.getD 2 (.s "")).t
nonrec def EG:D->D
 | .str z=>if ↑z=0 then .non else .str ⟨#[z.cps.getD 0 0]⟩
 | .tup (x::_)=>x
 |_=> .non
nonrec def NX:D->D
 | .str z=>if ↑z=0 then .non else .str (HM z (u_ 1) U_)
 | .tup (_::r)=> .tup r
 |_=> .non
nonrec def AaW:D->Nat
 | .str z=>↑z
 | .tup xs=>↑xs
 |_=>0
nonrec def Ada:D->D->D
 | .tup xs,e=> .tup (xs++ [e])
 |_,_=> .non
nonrec def Aa5:D->D->D
 | .str x,.str y=> .str (x++y)
 |_,_=> .non
nonrec def Adj:D->D->D
 | .str z,.str y=>if ↑y=0 then .non else .tup ((spG z y).map .str)
 |_,_=> .non
nonrec def Aa7:D->D->D
 | .tup xs,.str y=>if xu xs=v_ then .str (Vf y (xi xs)) else .non
 |_,_=> .non
nonrec def made (w:Str)(B:Str->D)(own:Str)(ps:oj Pt):D:=
 if w="text" then .str (b1 ps) else if w="self" then .str own else if w="copy" then B (b1 ps) else if w="row" then .tup [] else
 if w="put" then Ada (B (b0 ps)) (B (b1 ps)) else if w="join" then Aa5 (B (b0 ps)) (B (b1 ps)) else if w="first" then EG (B (b1 ps)) else if w="rest" then NX (B (b1 ps)) else
 if w="size" then .str (Vi ((AaW (B (b1 ps)):Nat):Int)) else if w="cut" then Adj (B (b1 ps)) (B (b2 ps)) else Aa7 (B (b1 ps)) (B (b2 ps))
variable {ps:oj Pt}
def QV {m:Nat}{w:Str}(h:Jb n m (w,ps))(O:(w,ks)∈FRM):Xc n m ks ps:=by
 erw[h,U,h1,h2];have:=EC _ h1 _ O rfl;cases this;exact h2
def Acd {m:Nat}(h:Xc n m [.box] ps):∃x,ps= [.s x]/\x∈BX:=by
 match ps,h with
 | [.s x],h=>exact[x:1:h.1]
 | [.n _],h=>exact h.1.elim
def wY {m:Nat}(h:Xc n m [.box,.box] ps):∃x y,ps= [.s x,.s y]/\x∈BX/\y∈BX:=by
 match ps,h with
 | [.s x,.s y],h=>exact⟨x,y,1,h.1,h.2.1⟩
 | [.n _,_],h=>exact h.1.elim
 | [.s _,.n _],h=>exact h.2.1.elim
def Mg {m:Nat}(h:Xc n m [.box,.box,.box] ps):∃x y z,ps= [.s x,.s y,.s z]/\x∈BX/\y∈BX/\z∈BX:=by
 match ps,h with
 | [.s x,.s y,.s z],h=>exact⟨x,y,z,1,h.1,h.2.1,h.2.2.1⟩
 | [.n _,_,_],h=>exact h.1.elim
 | [.s _,.n _,_],h=>exact h.2.1.elim
 | [.s _,.s _,.n _],h=>exact h.2.2.1.elim
def Acc {m:Nat}(h:Xc n m [.box,.words] ps):∃x y,ps= [.s x,.s y]/\x∈BX/\↑y<=m/\y.cps.toList.all QC=true:=by
 match ps,h with
 | [.s x,.s y],h=>exact⟨x,y,1,h.1,h.2.1⟩
 | [.n _,_],h=>exact h.1.elim
 | [.s _,.n _],h=>exact h.2.1.elim
def Aae {m:Nat}(h:Xc n m [.box,.line] ps):∃x,∃i:Int,ps= [.s x,.n i]/\x∈BX/\1<=i/\i<=n:=by
 match ps,h with
 | [.s x,.n i],h=>exact⟨x,i,1,h.1,h.2.1⟩
 | [.n _,_],h=>exact h.1.elim
 | [.s _,.s _],h=>exact h.2.1.elim
def Aaf {m:Nat}(h:Xc n m [.box,.box,.line] ps):∃x y,∃i:Int,ps= [.s x,.s y,.n i]/\x∈BX/\y∈BX/\1<=i/\i<=n:=by
 match ps,h with
 | [.s x,.s y,.n i],h=>exact⟨x,y,i,1,h.1,h.2.1,h.2.2.1⟩
 | [.n _,_,_],h=>exact h.1.elim
 | [.s _,.n _,_],h=>exact h.2.1.elim
 | [.s _,.s _,.s _],h=>exact h.2.2.1.elim
nonrec def Ii (H:Hp)(t:o3)(ps:oj Pt):Prop:=Is H (.tup (ps.map Pt.d)) (.ref t)
nonrec def Tr (B:Str->D):Prop:=∀z∈BX,isT (B z)=v_
inductive Xz (w:Str):Sp
 |mk (d t:Addr)(own:Str)(B:Str->D)(ps:List Pt)(n:Nat)(_:vs= [.ref d,.str own,.ref t])(_:Yr H d B)(_:Tr B)(_:↑own<=100)(_:Jb n 300 (w,ps))(_:Ii H t ps)(_:∀(v:V)(H':Hp),ia H H'->Is H' (made w B own ps) v->Q v H')
variable {Q:VK}
def Ib {K:o0}{t:o3}(h:Ii H t ps)(e:ps[i]? =u_ (.s z))(q:Q (.str z) H):Od K (.ref t) (.int (i:Int)) H Q:=
 xT (d:= .str z) h (qE (by rw[uM,e];rfl)) λx O=>by erw[O,rfl,_];exact q
def xr {d:D}(h:isT d=v_):dp d<=12:=by
 unfold isT at h;rw[uF] at h;exact uw h.2
def MF {d:D}(h:isT d=v_):sz d<=600:=by
 unfold isT at h;rw[uF,uF] at h;exact uw h.1.2
def YA {d:D}(h:isT d=v_):AaW d<=600:=by
 have h1:=MF h;cases d with
 |str z=>simp![sz] at h1;show ↑z<=600;omega
 |tup xs=>
  unfold isT at h;rw[uF,uF] at h;have h2:=h.1.1;simp![iK,uF] at h2;have:=uw h2.1;show ↑xs<=600;omega
 |_=>exact uP _
def Ar (z y:Str):↑(z++y:Str)=↑z+↑y:=by
 show(z.cps++y.cps).size=z.cps.size+y.cps.size;exact Tq
def nj {K:o0}{t d:o3}{B:Str->D}(O:Yr H d B)(h:Ii H t ps)(e:ps[i]? =u_ (.s z))(U:z∈BX)(q:∀v,Is H (B z) v->Q v H):Od K (.ref t) (.int (i:Int)) H (λy H2=>MW Q (.ref d) y H2):=by
 erw[O.get U,v,Z,iv];exact Ib h e ⟨d,v,1,Z,q v iv⟩
def Ou:#[T,1,a.xM,a.wD,["boxes","own","parts"],(Xz "text")]:=by
 exists 9,T.lf,nH,Z
 erw[h,d,t,own,B,ps,n,rfl,hB,hT,ho,O,U,k];exists 3,%[|#[qp,#[qF,qz,pv 2,qh]]]
 erw[Acc (QV O ()),x,y,rfl,hx,hy,hs]
 exact⟨0,Ib (i:=1) U rfl (k _ H (ia.refl _) ⟨1,yL (by show ↑y<=1000;omega)⟩)⟩
def Ox:#[T,1,a.xI,a.wy,["boxes","own","parts"],(Xz "self")]:=by
 exists 9,T.li,nJ,U
 erw[h,d,t,own,B,ps,n,rfl,Z,hT,ho,O,hp,k];exists 3,%[|#[qp,pv 1]]
 exact⟨0,k _ H (ia.refl _) ⟨1,yL (by show ↑own<=1000;omega)⟩⟩
def AaE:#[T,1,a.zx,a.WT,["boxes","own","parts"],(Xz "row")]:=by
 exists 9,T.lP,sE,Z
 erw[h,d,t,own,B,ps,n,rfl,hB,hT,ho,U,hp,k];exists 3,%[|#[qp,#[qB,qd]]]
 exact[(sml rfl):λl O=>k _ _ (qf O _) (Is.new (ds:= []) rfl O)]
def OR:#[T,1,a.xR,a.Wh,["boxes","own","parts"],(Xz "copy")]:=by
 exists 9,T.lr,nQ,U
 erw[h,d,t,own,B,ps,n,rfl,Z,hT,ho,O,hp,k];exists 3,%[|#[qp,#[QO,6,yb U,pv 0,#[qF,qz,pv 2,qh],(λ_ _=>rfl)]]]
 erw[wY (QV O ()),x,y,rfl,hx,hy]
 exists 0,0;exact nj (i:=1) Z hp rfl hy λv iv=>k _ H (ia.refl _) iv
def AaF:#[T,1,a.zy,a.kt,["boxes","own","parts"],(Xz "put")]:=by
 exists 9,T.lR,wu
 erw[h,d,t,own,B,ps,n,rfl,hB,hT,ho,aa,O,k];exists 3,%[#[qG,(3),wu.nd,#[QO,pv 0,#[qF,qz,pv 2,qh]]],#[qI,#[Qv,#[Qh,#[qx,#[Qb,2,rfl],T.qS,vd,#v[pv 3,#[yc,.ty "tuple",T.QH,vn]]]]],%[|#[qp,qT]],qr]|#[qp,#[qY,wN,pv 3,#[qB,#v[#[QO,pv 0,#[qF,qz,pv 2,qh]]]]]]]
 erw[wY (QV aa ()),x,y,rfl,hx,hy]
 exists 0,0;refine nj (i:=0) hB O rfl hx λv iv=>?_
 exists 0,v,"tuple",tyD (B x),zQ (B x),1,iv.ty,xZ _,0;have U:=YA (hT x hx);have k':∀(v:V) (H':Hp),ia H H'->Is H' (Ada (B x) (B y)) v->Q v H':=k;generalize B x=dx at iv k' U⊢;cases dx with
 |tup xs=>
  refine iP ?_;erw[iv,r,rs,rfl,er,ir]
  exists 0,0,0;refine nj (i:=1) hB O rfl hy λu iu=>?_
  exists (sml rfl),λl Z=>⟨r,l,rs,[u],1,1,SqT.of (qf Z _ _ _ er),SqT.of qg,?_,λe=>?_,λ_ e=>(by cases e),λ_ _ p O=>?_⟩
  ·rw[↑ir];have:↑xs<=600:=U;exact yL (by show ↑xs+1<=1000;omega)
  ·subst e;have e2:xs= []:=Ua ir.length.symm;subst e2;exact k' _ _ (qf Z _) (Is.new (ds:= [B y]) (IsL.one iu) Z)
  ·have t1:Tk H (upd H l (.tup [u])):=(qf Z _).tk;exact k' _ _ ((qf Z _).trans (qf O _)) (Is.new (ds:=xs++ [B y]) ((ir.mono t1).append (IsL.one (iu.mono t1))) O)
 |_=>exact lC (k' _ H (ia.refl _) rfl)
def OM:#[T,1,a.Xj,a.wO,["boxes","own","parts"],(Xz "join")]:=by
 exists 9,T.lp,Jj
 erw[h,d,t,own,B,ps,n,rfl,hB,hT,ho,aa,hp,k];exists 3,%[#[qG,(3),Jj.nd,#[QO,pv 0,#[qF,qz,pv 2,qh]]],#[qG,(4),Jj.nd,#[QO,pv 0,#[qF,qz,pv 2,qh]]],@qI _ _ _ _ _ _ _ _ #[Xp,#[Qv,#[Qh,#[qx,#[Qb,2,rfl],T.qS,vd,#v[pv 3,#[yc,.ty "str",T.Zi,UB]]]]],#[jq,#[Qv,#[Qh,#[qx,#[Qb,2,rfl],T.qS,vd,#v[pv 4,#[yc,.ty "str",T.Zi,UB]]]]]]].pt %[|#[qp,qT]] qr|#[qp,#[qY,Qo,pv 3,pv 4]]]
 erw[wY (QV aa ()),x,y,rfl,hx,hy]
 exists 0,0;refine nj (i:=0) hB hp rfl hx λv iv=>?_
 exists 0,0;refine nj (i:=1) hB hp rfl hy λu iu=>?_;have lx:=YA (hT x hx);have ly:=YA (hT y hy);have O:∀(v:V) (H':Hp),ia H H'->Is H' (Aa5 (B x) (B y)) v->Q v H':=k;generalize B x=dx at iv O lx⊢;generalize B y=U at iu O ly⊢
 exists 0,v,"str",tyD dx,isStr dx,1,iv.ty,jR _,0;cases dx with
 |str z=>
  refine iP ⟨0,u,"str",tyD U,isStr U,1,iu.ty,jR _,0,?_⟩;cases U with
  |str Z=>
   refine iP ?_;erw[iv,rfl,_];erw[iu,rfl,_];have h1:↑z<=600:=lx;have h2:↑Z<=600:=ly;exact⟨0,0,_,0,1,fits (),O _ H (ia.refl _) ⟨1,by rw[show(z++Z).length=↑z+↑Z from Ar z Z];exact fits ()⟩⟩
  |_=>exact lC (O _ H (ia.refl _) rfl)
 |_=>exact lC (O _ H (ia.refl _) (by cases U<;>rfl))
def Ll:#[T,1,a.JS,a.ZB,["boxes","own","parts"],(Xz "first")]:=by
 exists 9,T.iY,Xv
 erw[h,d,t,own,B,ps,n,rfl,hB,hT,ho,Z,hp,k];exists 3,%[#[qG,(3),Xv.nd,#[QO,pv 0,#[qF,qz,pv 2,qh]]]|#[qp,#[Q6,#[qm,oy,#[qx,JE,T.Q0,uL,#v[pv 3]],qh],#[qF,XO,pv 3,qh],qT]]]
 erw[wY (QV Z ()),x,y,rfl,hx,hy]
 exists 0,0;refine nj (i:=1) hB hp rfl hy λv U=>?_;have ly:=YA (hT y hy);have hg:=hT y hy;have O:∀(v:V) (H':Hp),ia H H'->Is H' (EG (B y)) v->Q v H':=k;generalize B y=dy at U O ly hg⊢;cases dy with
 |str z=>
  erw[U,rfl,hz]
  exists 0,.inl ⟨z,1,hz,_,0,1,0,?_⟩;refine lL (λc=>?_) (λc=>?_)
  ·have h0:1<=↑z:=by have:=uw c;omega
   have k2:Is H (EG (.str z)) (.str ⟨#[z.cps.getD 0 0]⟩):=by
    show Is H (if ↑z=0 then D.non else _) _
    rw[A2 ()]
    exact⟨1,yL (by show 1<=1000;decide)⟩
   exact[0:.inr (.inr ⟨z,(0),0,1,hz,By h0,O _ H (ia.refl _) k2⟩)]
  ·have h0:↑z=0:=by
    rcases Rk ↑z with e|e
    ·exact e
    ·exact A7 (A6 ()) c
   exact O _ H (ia.refl _) (by show Is H (if ↑z=0 then D.non else _) _;rw[A3 h0];rfl)
 |tup xs=>
  have aa:=U;erw[aa,r,rs,rfl,er,ir]
  exists 0,.inr ⟨r,rs,1,.inr (SqT.of er),λ_=>⟨_,0,1,0,?_⟩⟩;have hl:=↑ir;cases xs with
  |nil=>exact Qw (ue (by rw[hl];decide)) (O _ H (ia.refl _) rfl)
  |cons e es=>
   refine QM (A6 (by rw[hl,uu];omega)) ?_
   exact[0:.inr (.inl (xT (i:=0) (d:=e) U (qE (j:=0) rfl) λq hq=>O _ H (ia.refl _) hq))]
 |_=>simp[isT,iK] at hg
def kA:∀xs:oj D,xu xs=xs.all isStr
 | []=>rfl
 | .str _::r=>by show xu r=_;rw[kA r];rfl
 | .non::_| .bl _::_| .int _::_| .lst::_| .dct::_| .tup _::_=>rfl
def AE:∀{xs:oj D},xu xs=v_->xs=(xi xs).map D.str
 | [],_=>rfl
 | .str z::r,h=>by
  show D.str z::r=D.str z::(xi r).map D.str;rw[<-AE (show xu r=v_ from h)]
def IsL.strs {H:Hp}:∀{l:oj Str}{vs:oj V},L2.IsL H (l.map D.str) vs->vs=l.map V.str
 | [],_,h=>h
 |_::_,_,h=>by
  erw[h,v,r,rfl,h1,h2];rw[IsL.strs h2,h1.1];rfl
def IsL.ofStrs {H:Hp}:∀{l:oj Str},(∀z∈l,↑z<=V9)->L2.IsL H (l.map D.str) (l.map V.str)
 | [],_=>rfl
 |z::l,h=>⟨_,0,[1:h z uj],IsL.ofStrs λy O=>h y (ui _ O)⟩
def AD:∀(l:oj Str),(l.map (·.length)).sum+↑l=szL (l.map D.str)
 | []=>rfl
 |z::l=>by
  have:=AD l;simp![uC,Uv,uu,szL,sz];omega
def Eh (sep:Str):∀(l:oj Str),↑(Vf sep l)<=(l.map (·.length)).sum+↑l*↑sep
 | []=>uP _
 | [x]=>by simp[Vf]
 |x::y::r=>by
  have O:=Eh sep (y::r);have e:↑(Vf sep (x::y::r))=↑x+↑sep+↑(Vf sep (y::r)):=by
   show((x.cps++sep.cps)++(Vf sep (y::r)).cps).size=_;rw[Tq,Tq]
   rfl
  rw[e,uC,Uv,uu,Nat.succ_mul];omega
def OA:#[T,1,a.Xf,a.Z7,["boxes","own","parts"],(Xz "rest")]:=by
 exists 9,T.ll,Zz
 erw[h,d,t,own,B,ps,n,rfl,hB,hT,ho,Z,U,k];exists 3,%[#[qG,(3),Zz.nd,#[QO,pv 0,#[qF,qz,pv 2,qh]]]|#[qp,#[Q6,#[qm,oy,#[qx,JE,T.Q0,uL,#v[pv 3]],qh],#[Ys,Aad,pv 3,#[YM,qh],JC],qT]]]
 erw[wY (QV Z ()),x,y,rfl,hx,hy]
 exists 0,0;refine nj (i:=1) hB U rfl hy λv iv=>?_;have ly:=YA (hT y hy);have hg:=hT y hy;have O:∀(v:V) (H':Hp),ia H H'->Is H' (NX (B y)) v->Q v H':=k;generalize B y=dy at iv O ly hg⊢;cases dy with
 |str z=>
  erw[iv,rfl,hz]
  exists 0,.inl ⟨z,1,hz,_,0,1,0,?_⟩;refine lL (λc=>?_) (λc=>?_)
  ·have h0:1<=↑z:=by have:=uw c;omega
   have k2:Is H (NX (.str z)) (.str (HM z (u_ 1) U_)):=by
    show Is H (if ↑z=0 then D.non else _) _
    rw[A2 ()]
    exact[1:uT (FX z _ _) hz]
   exact[0:0:.inl ⟨z,1,hz,O _ H (ia.refl _) k2⟩]
  ·have h0:↑z=0:=by
    rcases Rk ↑z with e|e
    ·exact e
    ·exact A7 (A6 ()) c
   exact O _ H (ia.refl _) (by show Is H (if ↑z=0 then D.non else _) _;rw[A3 h0];rfl)
 |tup xs=>
  have aa:=iv;erw[aa,r,rs,rfl,er,ir]
  exists 0,.inr ⟨r,rs,1,.inr (SqT.of er),λ_=>⟨_,0,1,0,?_⟩⟩;have hl:=↑ir;cases xs with
  |nil=>exact Qw (ue (by rw[hl];decide)) (O _ H (ia.refl _) rfl)
  |cons e es=>
   refine QM (A6 (by rw[hl,uu];omega)) ?_
   erw[ir,v0,r0,rfl,i0,i1]
   exists 0,0,.inr ⟨r,v0::r0,1,SqT.of er,λh=>?_,λ_ p U=>?_⟩
   ·exfalso;have:=h.1;simp[HT.sIx] at this
   ·have e1:ni (v0::r0) (u_ 1) U_=r0:=by
     rw[show(u_ (1:Int))=u_ (((1:Nat)):Int) from rfl,JU (by simp)]
     rfl
    rw[e1];exact O _ _ (qf U _) (Is.new i1 U)
 |_=>simp[isT,iK] at hg
def Ow:#[T,1,a.Xm,a.Z3,["boxes","own","parts"],(Xz "size")]:=by
 exists 9,T.lh,nI
 erw[h,d,t,own,B,ps,n,rfl,hB,hT,ho,O,hp,k];exists 3,%[|#[qp,#[qW,Y9,T.Zi,UB,#v[#[qx,JE,T.Q0,uL,#v[#[QO,pv 0,#[qF,qz,pv 2,qh]]]]]]]]
 erw[wY (QV O ()),x,y,rfl,hx,U]
 exists 0,0;refine nj (i:=1) hB hp rfl U λv Z=>?_;have ly:=YA (hT y U);have hg:=hT y U;have k':∀(v:V) (H':Hp),ia H H'->Is H' (.str (Vi ((AaW (B y):Nat):Int))) v->Q v H':=k;generalize B y=dy at Z k' ly hg⊢;have sm:∀n:Nat,n<=600->((n:Int)).natAbs.log2<1920/\↑((Vi (n:Int):Str))<=sizeLine:=by
  intro n hn;have h2:=V2 ((n:Int)).natAbs;exact[():int_text_fits ()]
 cases dy with
 |str z=>
  erw[Z,rfl,hz];have h2:=sm ↑z ly;exact .inl ⟨z,1,hz,0,h2.1,k' _ H (ia.refl _) [1:h2.2]⟩
 |tup xs=>
  have aa:=Z;erw[aa,r,rs,rfl,er,ir];have h2:=sm ↑xs ly;refine .inr ⟨r,rs,1,.inr (SqT.of er),λ_=>[0:?_:?_]⟩
  ·rw[↑ir];exact h2.1
  ·rw[↑ir];exact k' _ H (ia.refl _) [1:h2.2]
 |_=>simp[isT,iK] at hg
def AaJ:#[T,1,a.zP,a.WY,["boxes","own","parts"],(Xz "cut")]:=by
 exists 9,T.lS,Xg
 erw[h,d,t,own,B,ps,n,rfl,hB,hT,ho,aa,Z,k];exists 3,%[#[qG,(3),Xg.nd,#[QO,pv 0,#[qF,qz,pv 2,qh]]],#[qG,(4),Xg.nd,#[QO,pv 0,#[qF,qz,pv 2,qh]]],@qI _ _ _ _ _ _ _ _ #[Xp,#[Qv,#[Qh,#[qx,#[Qb,2,rfl],T.qS,vd,#v[pv 3,#[yc,.ty "str",T.Zi,UB]]]]],#[Xp,#[Qv,#[Qh,#[qx,#[Qb,2,rfl],T.qS,vd,#v[pv 4,#[yc,.ty "str",T.Zi,UB]]]]],#[jq,#[qm,Qr,pv 4,ql]]]].pt %[|#[qp,qT]] qr|#[qp,#[qW,qZ,T.QH,vn,#v[#[jk,uX,Ug,Uh,D4,pv 3,#v[pv 4]]]]]]
 erw[Mg (QV aa ()),x0,x,y,rfl,ac,hx,hy]
 exists 0,0;refine nj (i:=1) hB Z rfl hx λv iv=>?_
 exists 0,0;refine nj (i:=2) hB Z rfl hy λu iu=>?_;have lx:=YA (hT x hx);have ly:=YA (hT y hy);have U:∀(v:V) (H':Hp),ia H H'->Is H' (Adj (B x) (B y)) v->Q v H':=k;generalize B x=dx at iv U lx⊢;generalize B y=dy at iu U ly⊢
 exists 0,v,"str",tyD dx,isStr dx,1,iv.ty,jR _,0;cases dx with
 |str z=>
  refine iP ⟨0,u,"str",tyD dy,isStr dy,1,iu.ty,jR _,0,?_⟩;cases dy with
  |str O=>
   refine iP ?_;erw[iv,rfl,_];erw[iu,rfl,_];have h1:↑z<=600:=lx;have h2:↑O<=600:=ly
   exists 0,1,0;refine lL (λc=>?_) (λc=>?_)
   ·have e:O="":=by have:=uw c;injection this
    subst e;exact U _ H (ia.refl _) rfl
   ·have h3:↑O≠0:=λh=>c (A6 (by
     have:O="":=by
      have h4:O.cps= #[]:=Array.eq_empty_of_size_eq_zero h;cases O;simp only at h4;subst h4
      decide+kernel
     rw[this]))
    exists 0,1,0,z,O,1,1,(),(),λp Z=>[p:0:.inl [SqL.of qg:λl hl=>?_]]
    have s1:ia H (upd H p (.lst ((spG z O).map V.str))):=qf Z _;refine U _ _ (s1.trans (qf hl _)) ?_;show Is _ (if ↑O=0 then D.non else .tup ((spG z O).map D.str)) _
    rw[A2 h3];exact Is.new (IsL.ofStrs λq hq=>yL (by have:=NQ hq;omega)) hl
  |_=>exact lC (U _ H (ia.refl _) rfl)
 |_=>exact lC (U _ H (ia.refl _) (by cases dy<;>rfl))
def OP:#[T,1,a.xY,a.ZZ,["boxes","own","parts"],(Xz "glue")]:=by
 exists 9,T.lq,Jf
 erw[h,d,t,own,B,ps,n,rfl,hB,hT,ho,ae,hp,k];exists 3,%[#[qG,(3),Jf.nd,#[QO,pv 0,#[qF,qz,pv 2,qh]]],#[qG,(4),Jf.nd,#[QO,pv 0,#[qF,qz,pv 2,qh]]],@qI _ _ _ _ _ _ _ _ #[Xp,#[Qv,#[Qh,#[qx,#[Qb,2,rfl],T.qS,vd,#v[pv 3,#[yc,.ty "tuple",T.QH,vn]]]]],#[jq,#[Qv,#[Qh,#[qx,#[Qb,2,rfl],T.qS,vd,#v[pv 4,#[yc,.ty "str",T.Zi,UB]]]]]]].pt %[|#[qp,qT]] qr,#[qI,#[Qv,#[Qh,#[qx,#[Jy,1,rfl],T.z_all,h_,#v[#[xN,["part"],(1),[],Sl,#[Xo,pv 3],(λ_ _ _ _ _ _=>#[qN,(0),(show Vl (["part"]:oj Str) by decide+kernel)]),(λ_ _ _ _ _ _=>#[qx,#[Qb,2,rfl],T.qS,vd,#v[pv 0,#[yc,.ty "str",T.Zi,UB]]])]]]]],%[|#[qp,qT]],qr]|#[qp,#[jk,uX,vW,vX,Ly,pv 4,#v[pv 3]]]]
 erw[Mg (QV ae ()),x0,x,y,rfl,ah,hx,hy]
 exists 0,0;refine nj (i:=1) hB hp rfl hx λv iv=>?_
 exists 0,0;refine nj (i:=2) hB hp rfl hy λu iu=>?_;have lx:=YA (hT x hx);have hg:=hT x hx;have ly:=YA (hT y hy);have U:∀(v:V) (H':Hp),ia H H'->Is H' (Aa7 (B x) (B y)) v->Q v H':=k;generalize B x=dx at iv U lx hg⊢;generalize B y=dy at iu U ly⊢
 exists 0,v,"tuple",tyD dx,zQ dx,1,iv.ty,xZ _,0;cases dx with
 |tup xs=>
  refine iP ⟨0,u,"str",tyD dy,isStr dy,1,iu.ty,jR _,0,?_⟩;cases dy with
  |str Z=>
   refine iP ?_;erw[iv,r,rs,rfl,er,ir];erw[iu,rfl,_];have h1:↑xs<=600:=lx;have h2:↑Z<=600:=ly
   exists 0,r,rs,1,SqT.of er,λak A0 af=>?_;refine sU (tl:= []) (λd=> .bl (isStr d)) er ir (fits ()) af (λd0 x0 H3 R al s3 i3 q=>⟨0,x0,"str",tyD d0,isStr d0,1,i3.ty,jR _,q _ H3 (ia.refl _) rfl⟩) λH1 ys s1 l1 i1=>?_
   have ey:ys=(xs.map isStr).map V.bl:=IsL.bls (by rwa[uU])
   subst ey
   exists A0,xs.map isStr,1,SqL.of l1,0;have aa:(xs.map isStr).all id=xu xs:=by rw[kA,Uq];rfl
   rw[aa];cases O:xu xs with
   |false=>exact lC (U _ H1 s1 (by show Is H1 (if xu xs=v_ then _ else D.non) _;rw[O];rfl))
   |true=>
    have ac:=AE O;have ag:rs=(xi xs).map V.str:=IsL.strs (by rwa[<-ac])
    have hsz:=MF hg;have ad:=AD (xi xs);rw[<-ac] at ad;simp![sz] at hsz;have am:↑(xi xs)*↑Z<=600*600:=Nat.mul_le_mul () h2
    have hj:=Eh Z (xi xs);refine iP ⟨0,1,0,Z,r,xi xs,1,1,SqT.of (by rw[s1 _ _ er,ag]),(),?_⟩
    refine U _ H1 s1 ?_;show Is H1 (if xu xs=v_ then .str (Vf Z (xi xs)) else D.non) _
    rw[O];exact[1:fits ()]
  |_=>exact lC (U _ H (ia.refl _) rfl)
 |_=>exact lC (U _ H (ia.refl _) (by cases dy<;>rfl))
nonrec def MC (w:Str)(B:Str->D)(ps:oj Pt):Bool:=if w="like" then eqD (B (b0 ps)) (B (b1 ps)) else if w="rowed" then zQ (B (b0 ps)) else if w="none" then decide (AaW (B (b0 ps))=0) else v_
nonrec def JMP:oj Str:= ["go","like","rowed","none"]
nonrec def ASK:oj Str:= ["ask","has","names"]
nonrec def flt (w:Str):D:= .tup [.str "fault",.str w]
nonrec def sr (w:Str)(held:D):D:=if w="names" then(if isStr held=v_ then .tup [.str "asks",.tup [.str "names",held]] else flt "kind") else if mG held=v_ then .tup [.str "asks",.tup [.str (if w="ask" then "thing" else "has"),held]] else flt "name"
inductive NF:Sp
 |mk (d t:Addr)(w:Str)(B:Str->D)(ps:List Pt)(n:Nat)(_:vs= [.ref d,.str w,.ref t])(_:Yr H d B)(_:Tr B)(_:w∈JMP)(_:Jb n 300 (w,ps))(_:Ii H t ps)(_:Q (.bl (MC w B ps)) H)
inductive IO:Sp
 |mk (w:Str)(v:V)(d:D)(_:vs= [.str w,v])(_:w∈ASK)(_:Is H d v)(_:∀(u:V)(H':Hp),ia H H'->Is H' (sr w d) u->Q u H')
mutual
theorem Ev:∀{d:D},iK d=v_->puD d=v_
 | .str _,_=>rfl
 | .tup xs,h=>by
  simp![iK,uF] at h;show puL xs=v_;exact goodL_pu h.2
 | .non,h| .bl _,h| .int _,h| .lst,h| .dct,h=>by simp[iK] at h
theorem goodL_pu:∀{xs:oj D},goodL xs=v_->puL xs=v_
 | [],_=>rfl
 |x::r,h=>by
  simp![goodL,uF] at h;simp![puL,Ev h.1,goodL_pu h.2,Rb]
end
def Pl {d:D}(h:iK d=v_):trD d=true:=by
 cases d with
 |str z=>rfl
 |tup xs=>exact Ev (d:= .tup xs) h
 |_=>simp[iK] at h
def yj {d:D}(h:isT d=v_):iK d=true:=by
 unfold isT at h;rw[uF,uF] at h;exact h.1.1
def ME {d:D}(h:isT d=v_):trD d=true:=Pl (yj h)
def OL:#[T,1,a.Jn,a.Jt,["boxes","word","parts"],NF]:=by
 exists 9,T.lX,ZL
 erw[h,d,t,w,B,ps,n,rfl,hB,hT,hw,U,hp,k];exists 3,%[#[qI,#[qm,Qr,pv 1,ql],%[|#[qp,#[Qg,#[Dz,1,hr.units],#[QO,pv 0,#[qF,qz,pv 2,qh]],#[QO,pv 0,#[qF,qz,pv 2,qh]]]]],qr],#[qI,#[qm,Qr,pv 1,ql],%[|#[qp,#[qx,#[Qb,2,rfl],T.qS,vd,#v[#[QO,pv 0,#[qF,qz,pv 2,qh]],#[yc,.ty "tuple",T.QH,vn]]]]],qr],#[qI,#[qm,Qr,pv 1,ql],%[|#[qp,#[Qg,Qr,#[qx,JE,T.Q0,uL,#v[#[QO,pv 0,#[qF,qz,pv 2,qh]]]],qh]]],qr]|#[qp,YV]]
 exists 0,1,0;simp![JMP,uG,uH,uS] at hw;rcases hw with rfl|rfl|rfl|rfl
 ·refine Qw () ?_
  exists 0,1,0,Qw () ?_
  exists 0,1,0,Qw () ?_
  exact k
 ·refine QM () ?_
  erw[Aaf (QV U ()),x,y,i,rfl,O,hy,_]
  exists 0,0
  try dsimp![tC]
  refine nj (i:=0) hB hp rfl O λv Z=>?_
  exists 0,0
  try dsimp![tC]
  refine nj (i:=1) hB hp rfl hy λu iu=>?_
  exists B x,B y,Z,iu,ME (hT x O),ME (hT y hy),?_,k
  ·have:=xr (hT x O);omega
 ·refine Qw () ?_
  exists 0,1,0,QM () ?_
  erw[Aae (QV U ()),x,i,rfl,O,_]
  exists 0,0;refine nj (i:=0) hB hp rfl O λv Z=>?_;exact⟨v,"tuple",tyD (B x),zQ (B x),1,Z.ty,xZ _,k⟩
 ·refine Qw () ?_
  exists 0,1,0,Qw () ?_
  exists 0,1,0,QM () ?_
  erw[Aae (QV U ()),x,i,rfl,O,_]
  exists 0,0;refine nj (i:=0) hB hp rfl O λv Z=>?_;have k':Q (.bl (decide (AaW (B x)=0))) H:=k;have hg:=hT x O;generalize B x=dx at Z k' hg⊢;have hn:∀n:Nat,decide (V.int (n:Int)=V.int 0)=decide (n=0):=λn=>by
   rw[vc];constructor
   ·intro h;injection h with h;omega
   ·rintro rfl;rfl
  cases dx with
  |str z=>
   erw[Z,rfl,hz];refine .inl ⟨z,1,hz,1,?_⟩;rw[hn];exact k'
  |tup xs=>
   erw[Z,r,rs,rfl,er,ir];refine .inr ⟨r,rs,1,.inr (SqT.of er),λ_=>[1:?_]⟩;rw[hn,↑ir];exact k'
  |_=>simp[isT,iK] at hg
def Lp:#[T,2,a.j3,a.j7,["word","held"],IO]:=by
 have Q5:=#[zu,T];exists 9,T.lI,zL
 erw[h,w,v,d,rfl,hw,iv,k];exists 3,%[#[qI,#[qm,Qr,pv 0,ql],%[|#[qp,#[Q6,#[Qh,#[qx,#[Qb,2,rfl],T.qS,vd,#v[pv 1,#[yc,.ty "str",T.Zi,UB]]]],#[qB,#v[ql,#[qB,#v[ql,pv 1]]]],#[qB,#v[ql,ql]]]]],qr],#[qI,#[Qv,#[Qh,#[qv,Q5,T.io,#v[pv 1]]]],%[|#[qp,#[qB,#v[ql,ql]]]],qr]|#[qp,#[qB,#v[ql,#[qB,#v[#[Q6,#[qm,Qr,pv 0,ql],ql,ql],pv 1]]]]]]
 have two:(2:Nat)<=sizeLine:=by decide
 have st:∀{H:Hp} (z:Str),↑z<=100->Is H (.str z) (.str z):=λz hz=>[1:yL ()]
 have fl:∀(z:Str) (H:Hp) (l:o3),↑z<=100->H l=U_->Is (upd H l (.tup [.str "fault",.str z])) (flt z) (.ref l):=λz H l hz U=>Is.new (ds:= [.str "fault",.str z]) ⟨_,0,st _ (),_,0,st _ hz,1⟩ U
 exists 0,1,0;by_cases c:w="names"
 ·subst c;refine QM () ?_
  have ea:sr "names" d=if isStr d=v_ then .tup [.str "asks",.tup [.str "names",d]] else flt "kind":=by unfold sr;rw[A3 rfl]
  rw[ea] at k
  exists 0,v,"str",tyD d,isStr d,1,iv.ty,jR _,0;cases Z:isStr d with
  |true=>
   rw[Z] at k;refine lC [0:two:λl U=>[two:λl2 O=>?_]];have t1:ia H (upd H l (.tup [.str "names",v])):=qf U _;refine k _ _ (t1.trans (qf O _)) ?_;exact Is.new (ds:= [.str "asks",.tup [.str "names",d]]) ⟨_,0,st _ (),_,0,Is.new (ds:= [.str "names",d]) ⟨_,0,st _ (),_,0,iv,1⟩ U,1⟩ O
  |false=>
   rw[Z] at k;exact iP [two:λl U=>k _ _ (qf U _) (fl "kind" H l () U)]
 ·refine Qw (ue λh=>c (by injection h)) ?_
  have ea:sr w d=if mG d=v_ then .tup [.str "asks",.tup [.str (if w="ask" then "thing" else "has"),d]] else flt "name":=by unfold sr;rw[A2 c]
  rw[ea] at k
  exists 0,v,d,1,iv,λH1 s1=>[0:?_];cases Z:mG d with
  |false=>
   rw[Z] at k;exact lC [two:λl U=>k _ _ (s1.trans (qf U _)) (fl "name" H1 l () U)]
  |true=>
   rw[Z] at k;refine iP ⟨0,1,0,?_⟩;have aa:∀z:Str,↑z<=100->z=(if w="ask" then("thing":Str) else "has")->∀l,H1 l=U_->∀l2,(upd H1 l (.tup [.str z,v])) l2=U_->Q (.ref l2) (upd (upd H1 l (.tup [.str z,v])) l2 (.tup [.str "asks",.ref l])):=by
    intro z hz ez l U l2 O;have t1:ia H1 (upd H1 l (.tup [.str z,v])):=qf U _;refine k _ _ (s1.trans (t1.trans (qf O _))) ?_;rw[<-ez];exact Is.new (ds:= [.str "asks",.tup [.str z,d]]) ⟨_,0,st _ (),_,0,Is.new (ds:= [.str z,d]) ⟨_,0,st _ hz,_,0,iv.mono s1.tk,1⟩ U,1⟩ O
   refine lL (λc2=>?_) (λc2=>?_)
   ·have e:w="ask":=by have:=uw c2;injection this
    exact⟨0,two,λl U=>⟨two,λl2 O=>aa "thing" () (by rw[A3 e]) l U l2 O⟩⟩
   ·have e:w≠"ask":=λe=>c2 (A6 (by rw[e]))
    exact⟨0,two,λl U=>⟨two,λl2 O=>aa "has" () (by rw[A2 e]) l U l2 O⟩⟩
end
structure Mc where
 (x db dg:o3)
 rs:oj Rw
 own:Str
structure Rn where
 B:Str->D
 p:Int
 n:Nat
 gs:oj D
 th:D
nonrec def MTH:oj Str:= ["now","answer","asked","lines","copy","go_on","is_waiting","do_row","hold"]
structure Fl (fs:oj (Str×V))(rv ru:V)(own:Str)(db dg:o3)(place:Int)(done:Nat)(tv:V):Prop where
 rows:fs.lookup ("rows":Str)=u_ rv
 rule:fs.lookup ("rule":Str)=u_ ru
 own:fs.lookup ("own":Str)=u_ (.str own)
 boxes:fs.lookup ("boxes":Str)=u_ (.ref db)
 place:fs.lookup ("place":Str)=u_ (.int place)
 done:fs.lookup ("done":Str)=u_ (.int (done:Int))
 given:fs.lookup ("given":Str)=u_ (.ref dg)
 there:fs.lookup ("there":Str)=u_ tv
 meth:∀m∈MTH,fs.lookup m=U_
 len:↑fs<=20
def Y8 {f:Str}{v:V}:∀{fs:oj (Str×V)}{u:V},fs.lookup f=u_ u->↑(iF f v fs)=↑fs
 |(g,x)::r,u,h=>by
  unfold iF;by_cases c:g=f
  ·rw[A3 c];rfl
  ·rw[A2 c,uu,uu];have e:(f==g)=false:=by simp;exact λz=>c z.symm
   rw[vh,e] at h;rw[Y8 (u:=u) h]
 | [],u,h=>by simp at h
section
variable {fs:oj (Str×V)}{rv ru:V}{own:Str}{db dg:o3}{place:Int}{done:Nat}{tv:V}
def Fl.set_there {u:V}(h:Fl fs rv ru own db dg place done tv):Fl (iF "there" (u) fs) rv ru own db dg place done u:=by
 refine⟨?_,?_,?_,?_,?_,?_,?_,?_,λm hm=>?_,by rw[Y8 h.there];exact h.len⟩
 all_goals rw[qK]
 all_goals first|rw[A3 rfl]|(rw[A2 ()];first|exact h.rows|exact h.rule|exact h.own|exact h.boxes|exact h.place|exact h.done|exact h.given|exact h.there)|(rw[A2 (λe=>by subst e;revert hm;decide+kernel)];exact h.meth m hm)
def Fl.set_place {q:Int}(h:Fl fs rv ru own db dg place done tv):Fl (iF "place" (.int q) fs) rv ru own db dg q done tv:=by
 refine⟨?_,?_,?_,?_,?_,?_,?_,?_,λm hm=>?_,by rw[Y8 h.place];exact h.len⟩
 all_goals rw[qK]
 all_goals first|rw[A3 rfl]|(rw[A2 ()];first|exact h.rows|exact h.rule|exact h.own|exact h.boxes|exact h.place|exact h.done|exact h.given|exact h.there)|(rw[A2 (λe=>by subst e;revert hm;decide+kernel)];exact h.meth m hm)
def Fl.set_done {k:Nat}(h:Fl fs rv ru own db dg place done tv):Fl (iF "done" (.int ((k:Nat):Int)) fs) rv ru own db dg place k tv:=by
 refine⟨?_,?_,?_,?_,?_,?_,?_,?_,λm hm=>?_,by rw[Y8 h.done];exact h.len⟩
 all_goals rw[qK]
 all_goals first|rw[A3 rfl]|(rw[A2 ()];first|exact h.rows|exact h.rule|exact h.own|exact h.boxes|exact h.place|exact h.done|exact h.given|exact h.there)|(rw[A2 (λe=>by subst e;revert hm;decide+kernel)];exact h.meth m hm)
end
nonrec def yS (C:o3)(H:Hp)(m:Mc)(r:Rn):Prop:=
 ∃(dx:o3) (fs:oj (Str×V)) (rv ru tv:V) (gv:oj V),H m.x=u_ (.ins C dx fs)/\Fl fs rv ru m.own m.db m.dg r.p r.n tv/\Is H (.tup (m.rs.map rowD)) rv/\Is H (Ji m.rs) ru/\Yr H m.db r.B/\H m.dg=u_ (.lst gv)/\L2.IsL H r.gs gv/\Is H r.th tv
structure Mv (m:Mc)(H H':Hp):Prop where
 kept:∀b o,H b=u_ o->b≠m.x->b≠m.db->b≠m.dg->H' b=u_ o
 tk:Tk H H'
def Mv.refl (m:Mc)(H:Hp):Mv m H H:=[λ_ _ e _ _ _=>e:Tk.refl H]
variable {H H1 H2:Hp}
def Mv.trans {m:Mc}(h:Mv m H H1)(h2:Mv m H1 H2):Mv m H H2:=[λb o e n1 O U=>h2.kept b o (h.kept b o e n1 O U) n1 O U:h.tk.trans h2.tk]
variable {H':Hp}
def Mv.of {m:Mc}(s:ia H H'):Mv m H H':=[λb o e _ _ _=>s b o e:s.tk]
variable {C:o3}
def yS.same {m:Mc}{r:Rn}(h:yS C H m r)(s:ia H H'):yS C H' m r:=
 let⟨dx,fs,rv,ru,tv,gv,e,f,i,j,b,g,gl,t⟩:=h;⟨dx,fs,rv,ru,tv,gv,s _ _ e,f,i.mono s.tk,j.mono s.tk,b.same s,s _ _ g,gl.mono s.tk,t.mono s.tk⟩
variable {dx:o3}
def Yr.ne {x db:o3}{fs:oj (Str×V)}{B:Str->D}(e:H x=u_ (.ins C dx fs))(h:Yr H db B):db≠x:=λz=>by
 erw[h,f,O,_];rw[z,e] at O;cases O
variable {fs':oj (Str×V)}{rv:V}
def yr {m:Mc}{r:Rn}{fs:oj (Str×V)}{ru tv:V}{O:oj V}(e:H m.x=u_ (.ins C dx fs))(f:Fl fs' rv ru m.own m.db m.dg r.p r.n tv)(i:Is H (.tup (m.rs.map rowD)) rv)(j:Is H (Ji m.rs) ru)(b:Yr H m.db r.B)(U:H m.dg=u_ (.lst O))(Z:L2.IsL H r.gs O)(t:Is H r.th tv):
  yS C (upd H m.x (.ins C dx fs')) m r/\Mv m H (upd H m.x (.ins C dx fs')):=by
 have tk:Tk H (upd H m.x (.ins C dx fs')):=Tk.updI e;have n1:m.db≠m.x:=Yr.ne e b;have n2:m.dg≠m.x:=λz=>by rw[z,e] at U;cases U
 exact⟨⟨dx,fs',rv,ru,tv,O,qg,f,i.mono tk,j.mono tk,b.move tk (qj n1),by rwa[qj n2],Z.mono tk,t.mono tk⟩,⟨λc o h a1 _ _=>by rwa[qj a1],tk⟩⟩
nonrec def QK:D->Bool
 | .tup (.str w::_)=>decide (w="asks")
 |_=>V6
nonrec def Th (d:D):Prop:=d= .non∨∃w e,d= .tup [.str w,e]
inductive Out where
 |go (B:Str->D)(p:Int)|stop (e:D)
nonrec def Out.B (B:Str->D):Out->Str->D
 | .go B' _=>B'
 | .stop _=>B
nonrec def Out.P (p:Int):Out->Int
 | .go _ p'=>p'
 | .stop _=>p
nonrec def Out.T:Out->D
 | .go _ _=> .non
 | .stop e=>e
nonrec def wh (B:Str->D)(z:Str)(e:D)(p:Int):Out:=match e with
 | .non=> .stop (flt "kind")
 |e=>if isT e=v_ then .go (AG B z e) (p+1) else .stop (flt "big")
inductive S1 (C:Addr):Sp
 |mk (m:Mc)(r:Rn)(_:vs= [.ref m.x])(_:yS C H m r)(_:∀v,Is H r.th v->Q v H)
inductive NO (C:Addr):Sp
 |mk (m:Mc)(r:Rn)(_:vs= [.ref m.x])(_:yS C H m r)(_:∀v H',ia H H'->Is H' (.tup r.gs) v->Q v H')
inductive Nk (C:Addr):Sp
 |mk (m:Mc)(r:Rn)(_:vs= [.ref m.x])(_:yS C H m r)(_:Th r.th)(_:Q (.bl (QK r.th)) H)
inductive NH (C:Addr):Sp
 |mk (m:Mc)(r:Rn)(z:Str)(v:V)(e:D)(_:vs= [.ref m.x,.str z,v])(_:yS C H m r)(_:r.th= .non)(_:z∈BX)(_:Is H e v)(_:∀H',Mv m H H'->yS C H' m ⟨(wh r.B z e r.p).B r.B,(wh r.B z e r.p).P r.p,r.n,r.gs,(wh r.B z e r.p).T⟩->Q .non H')
section
variable {P:o9}{w:og}{K:o0}{mg:Str->om o6}{base:o8}{a:Ad}{g:Ga}
def DL:#[T,1,a.XW,a.ze,["self"],(S1 a.qo)]:=by
 exists 9,T.iN,WA,O
 erw[h,m,r,rfl,[dx,fs,rv,ru,tv,U,e,f,Z,iu,ib,hg,gl,it],k];exists 3,%[|#[qp,#[qO,5,pv 0,rfl]]]
 exact⟨0,m.x,_,dx,fs,tv,1,e,T.qt,T.qM,f.there,k _ it⟩
def DP:#[T,1,a.Jo,a.Jm,["self"],(NO a.qo)]:=by
 exists 9,T.iS,ZK
 erw[h,m,r,rfl,[dx,fs,rv,ru,tv,U,e,f,ir,iu,ib,Z,gl,it],k];exists 3,%[|#[qp,#[qW,qZ,T.QH,vn,#v[#[qO,5,pv 0,rfl]]]]]
 exact⟨0,m.x,_,dx,fs,0,e,T.qt,T.YG,f.given,m.dg,U,1,.inl [SqL.of Z:λl O=>k _ _ (qf O _) (Is.new gl O)]⟩
def Kj:#[T,1,a.Yp,a.Yo,["self"],(Nk a.qo)]:=by
 exists 9,T.il,JA
 erw[h,m,[B,p,n,gs,th],rfl,[dx,fs,rv,ru,tv,gv,e,f,ir,Z,ib,hg,gl,it],O,k];simp only at f ib gl it O k;exists 3,%[|#[qp,#[Xs,#[Qg,Wb,#[qO,5,pv 0,rfl],qT],#[xn,#[Qg,Qr,#[qF,XO,#[qO,5,pv 0,rfl],qh],ql]]]]]
 exists 0,m.x,_,dx,fs,tv,1,e,T.qt,T.qM,f.there,1;rcases O with rfl|⟨w1,e1,rfl⟩
 ·cases(show tv= .non from it)
  exact[0:Qw () k]
 ·have U:=it;erw[U,t0,us,rfl,et,Z]
  exists 0,QM (by simp) ⟨0,m.x,_,dx,fs,0,e,T.qt,T.qM,f.there,?_⟩
  refine .inr (.inl (xT (i:=0) (d:= .str w1) it (qE (j:=0) rfl) λq hq=>?_));erw[hq,rfl,_]
  exists 1;have ew:decide (V.str w1=V.str ("asks":Str))=decide (w1="asks"):=by
   rw[vc];exact⟨λh=>by injection h,λh=>by rw[h]⟩
  rw[ew];exact k
def OO:#[T,3,a.xk,a.xx,["self","box","tree"],(NH a.qo)]:=by
 have yG:=#[jo,T];exists 9,T.l6,wE
 erw[h,m,[B,p,n,gs,th],z,v,d,rfl,[dx,fs,rv,ru,tv,gv,e,f,ir,iu,ib,hg,gl,it],aa,hz,O,k];simp only at f ib gl it aa k;subst aa;exists 3,%[|#[qI,#[qm,yI,pv 2,qT],%[|#[Qm,#[qB,#v[ql,ql]]]],%[|#[qI,#[Qv,#[Qh,#[qv,yG,T.iC,#v[pv 2]]]],%[|#[Qm,#[qB,#v[ql,ql]]]],%[#[Xh,pv 1,pv 2]|#[Jk,10,pv 0,qh,oK]]]]]]
 have two:(2:Nat)<=sizeLine:=by decide
 have st:∀{H:Hp} (z:Str),↑z<=100->Is H (.str z) (.str z):=λz hz=>[1:yL ()]
 have fl:∀(z:Str) (H:Hp) (l:o3),↑z<=100->H l=U_->Is (upd H l (.tup [.str "fault",.str z])) (flt z) (.ref l):=λz H l hz U=>Is.new (ds:= [.str "fault",.str z]) ⟨_,0,st _ (),_,0,st _ hz,1⟩ U
 exists 0,1,0;have Z:↑fs<1000:=by have:=f.len;omega
 by_cases c:d= .non
 ·subst c;cases(show v= .non from O)
  refine QM () [two:λl U=>?_]
  have s1:ia H (upd H l (.tup [.str "fault",.str "kind"])):=qf U _
  exists 0,m.x,_,dx,fs,1,s1 _ _ e,T.qt,T.qM,Z;erw[yr (r:=⟨B,p,n,gs,flt "kind"⟩) (s1 _ _ e) (f.set_there (u:= .ref l)) (ir.mono s1.tk) (iu.mono s1.tk) (ib.same s1) (s1 _ _ hg) (gl.mono s1.tk) (fl "kind" H l () U),m1,m2]
  exact k _ ((Mv.of s1).trans m2) m1
 ·have hv:v≠ .non:=by
   rintro rfl;cases d with
   |non=>exact c rfl
   |bl b=>cases(show V.non= .bl b from O)
   |int i=>cases(show V.non= .int i from O)
   |str z=>erw[O,h,_];cases h
   |lst=>erw[O,_,_,h,_];cases h
   |dct=>erw[O,_,_,h,_];cases h
   |tup xs=>erw[O,_,_,h,_];cases h
  have eo:wh B z d p=if isT d=v_ then .go (AG B z d) (p+1) else .stop (flt "big"):=by
   cases d with
   |non=>exact A7 rfl c
   |_=>rfl
  rw[eo] at k;refine Qw (ue hv) ?_
  exists 0,v,d,1,O,λH1 s1=>[0:?_];cases ht:isT d with
  |false=>
   rw[ht] at k;refine lC [two:λl U=>?_];have s2:ia H (upd H1 l (.tup [.str "fault",.str "big"])):=s1.trans (qf U _)
   exists 0,m.x,_,dx,fs,1,s2 _ _ e,T.qt,T.qM,Z;erw[yr (r:=⟨B,p,n,gs,flt "big"⟩) (s2 _ _ e) (f.set_there (u:= .ref l)) (ir.mono s2.tk) (iu.mono s2.tk) (ib.same s2) (s2 _ _ hg) (gl.mono s2.tk) (fl "big" H1 l () U),m1,m2]
   exact k _ ((Mv.of s2).trans m2) m1
  |true=>
   rw[ht] at k;refine iP ?_;have ad:=O.mono s1.tk;erw[(ib.same s1).put hz ad,kvs,ac,ae,t2];have n1:m.db≠m.x:=Yr.ne e ib;have n3:m.dg≠m.db:=λz=>by
    erw[ib,ff,e2,_];rw[z,e2] at hg;cases hg
   have e1:=s1 _ _ e;have e3:(upd H1 m.db (.dK kvs)) m.x=u_ (.ins a.qo dx fs):=by rwa[qj n1.symm]
   exists 0,0,m.x,_,dx,fs,0,e1,T.qt,T.Qy,f.boxes,0,m.db,0,ac
   exists 0,m.x,_,dx,fs,0,e3,T.qt,T.Qq,f.place,p,(1),1,1,dx,fs,e3,Z;obtain⟨m1,m2⟩:=yr (r:=⟨AG B z d,p+1,n,gs,.non⟩) e3 (f.set_place (q:=p+1)) ((ir.mono s1.tk).mono t2) ((iu.mono s1.tk).mono t2) ae (by rw[qj n3];exact s1 _ _ hg) ((gl.mono s1.tk).mono t2) it
   exact k _ ((Mv.of s1).trans (Mv.trans ⟨λb o h _ a2 _=>by rwa[qj a2],t2⟩ m2)) m1
nonrec def MKR:oj Str:= ["text","self","copy","row","put","join","first","rest","size","cut","glue"]
nonrec def oG (ps:oj Pt):Int:=match ps.getLast? with
 |some (.n i)=>i
 |_=>0
nonrec def mB (own:Str)(r:Rw)(B:Str->D)(p:Int):Out:=
 if r.1∈MKR then wh B (b0 r.2) (made r.1 B own r.2) p else if r.1∈ASK then .stop (sr r.1 (B (b1 r.2))) else if r.1="say" then .stop (.tup [.str "said",B (b0 r.2)]) else
 if r.1="fault" then .stop (flt "told") else if MC r.1 B r.2=v_ then .go B (oG r.2) else .go B (p+1)
def Aba:∀x∈FRM,x.1∈MKR->x.2.head? =u_ .box:=by decide+kernel
def wA:∀x∈FRM,x.1∈ASK->x.1∉MKR/\x.1∈Abx/\x.2= [.box,.box]:=by decide+kernel
def Ag:∀x∈FRM,x.1="say"->x.2= [.box]:=by decide+kernel
def EB:∀x∈FRM,x.1∈MKR∨(x.1∉MKR/\x.1∈Abx/\(x.1∈ASK∨x.1∉ASK/\(x.1="say"∨x.1="fault"∨x.1≠"say"/\x.1≠"fault"/\x.1∈JMP))):=by decide+kernel
def Po:∀x∈FRM,x.1∈JMP->x.2.getLast? =u_ .line:=by decide+kernel
variable {r:Rw}
def Acx {m:Nat}(h:Jb n m r)(U:r.1∈MKR):∃z ps,r.2= .s z::ps/\z∈BX:=by
 erw[h,ks,Z,O];have:=Aba _ Z U
 match ks,O,this with
 | .box::ks,O,_=>
  match h2:r.2,O with
  | .s z::ps,O=>exact⟨z,ps,1,O.1⟩
  | .n _::_,O=>exact O.1.elim
def kH {n m:Nat}:∀{ks:oj Kd}{ps:oj Pt},Xc n m ks ps->ks.getLast? =u_ .line->∃qs i,ps=qs++ [.n i]/\1<=i/\i<=(n:Int)
 | [k],[p],h,e=>by
  cases e;cases p with
  |n i=>exact⟨[],i,1,h.1⟩
  |s z=>exact h.1.elim
 |k::k2::ks,p::p2::ps,h,e=>by
  rw[U8] at e;erw[kH (ks:=k2::ks) (ps:=p2::ps) h.2 e,qs,i,O,hi];exact⟨p::qs,i,by rw[O];rfl,hi⟩
 | [k],p::_::_,h,_=>h.2.elim
 |k::_::_,[p],h,_=>h.2.elim
 | [],[],_,e=>by cases e
 | [],_::_,h,_=>h.elim
 |_::_,[],h,_=>h.elim
def Bo {m:Nat}(h:Jb n m r)(O:r.1∈JMP):∃qs i,r.2=qs++ [.n i]/\1<=i/\i<=(n:Int)/\oG r.2=i:=by
 erw[h,ks,U,Z];erw[kH Z (Po _ U O),qs,i,e,h1,h2];exists qs,i,e,h1,h2;unfold oG;rw[e,List.getLast?_concat]
inductive IL (C:Addr):Sp
 |mk (m:Mc)(r:Rn)(rw:Rw)(v:V)(k:Nat)(_:vs= [.ref m.x,v])(_:yS C H m r)(_:r.th= .non)(_:Tr r.B)(_:↑m.own<=100)(_:Jb k 300 rw)(_:Is H (rowD rw) v)(_:∀H',Mv m H H'->yS C H' m ⟨(mB m.own rw r.B r.p).B r.B,(mB m.own rw r.B r.p).P r.p,r.n,r.gs,(mB m.own rw r.B r.p).T⟩->Q .non H')
variable {x:Str}
def Acw (T:Tx K mg a)(C:Fx K w mg g a)(h:x∈MKR):∃f fd,PySem.W.nsIn K g.makers x=u_ (u_ (.ref f))/\FnOk P w K mg base CX0 1 f fd ["boxes","own","parts"] (Xz x)/\zU K fd ["boxes","own","parts"] []/\PySem.W.keepIn K (.ref f)=true:=by
 simp![MKR,uG,uH,uS] at h;rcases h with rfl|rfl|rfl|rfl|rfl|rfl|rfl|rfl|rfl|rfl|rfl
 ·exact⟨_,_,C.k_text,Ou T,T.lf.b,T.lf.F.kp⟩
 ·exact⟨_,_,C.k_self,Ox T,T.li.b,T.li.F.kp⟩
 ·exact⟨_,_,C.k_copy,OR T,T.lr.b,T.lr.F.kp⟩
 ·exact⟨_,_,C.k_row,AaE T,T.lP.b,T.lP.F.kp⟩
 ·exact⟨_,_,C.k_put,AaF T,T.lR.b,T.lR.F.kp⟩
 ·exact⟨_,_,C.k_join,OM T,T.lp.b,T.lp.F.kp⟩
 ·exact⟨_,_,C.k_first,Ll T,T.iY.b,T.iY.F.kp⟩
 ·exact⟨_,_,C.k_rest,OA T,T.ll.b,T.ll.F.kp⟩
 ·exact⟨_,_,C.k_size,Ow T,T.lh.b,T.lh.F.kp⟩
 ·exact⟨_,_,C.k_cut,AaJ T,T.lS.b,T.lS.F.kp⟩
 ·exact⟨_,_,C.k_glue,OP T,T.lq.b,T.lq.F.kp⟩
def Ln:#[C,4,a.jV,a.jX,["self","row"],(IL a.qo)]:=by
 have Wj:=#[OL,T];have ZS:=#[Lp,T];have Wu:=#[OO,T];exists 9,T.lK,yX
 erw[h,m,[B,p,n,gs,th],r,v,nn,rfl,M,af,hT,ho,ad,iv,k];simp only at af hT k;subst af;exists 3,%[#[qG,(2),yX.nd,#[qF,qz,pv 1,qh]],#[qG,(3),yX.nd,#[qF,qz,pv 1,qh]]|#[qI,#[qm,8,AaB,pv 2,#[pe_gR,C.m_MAKERS],#[w]],%[|#[Qd,#[Qf,pv 0,T.qt,T.l6,Wu,#v[#[qF,qz,pv 3,qh],#[La,9,(1),5,⟨1,1,1,1,1⟩,#[qF,Ade,#[pe_gR,C.m_MAKERS],pv 2],hr.mono (),#v[#[qO,5,pv 0,rfl],#[qO,5,pv 0,rfl],pv 3],_,_]]]]],%[|#[qI,#[qm,8,QF,pv 2,#[pe_gR,C.m_ASKING],#[w]],%[|#[Qm,#[qv,ZS,T.lI,#v[pv 2,#[QO,#[qO,5,pv 0,rfl],#[qF,qz,pv 3,qh]]]]]],%[|#[qI,#[qm,Qr,pv 2,ql],%[|#[Qm,#[qB,#v[ql,#[QO,#[qO,5,pv 0,rfl],#[qF,qz,pv 3,qh]]]]]],%[|#[qI,#[qm,Qr,pv 2,ql],%[|#[Qm,#[qB,#v[ql,ql]]]],%[|#[qI,#[Qh,#[qv,Wj,T.lX,#v[#[qO,5,pv 0,rfl],pv 2,pv 3]]],%[|#[Qm,#[qF,qz,pv 3,#[KZ,6,Ax,qh]]]],%[|#[Jk,10,pv 0,qh,oK]]]]]]]]]]]]
 have two:(2:Nat)<=sizeLine:=by decide
 erw[r,U,ps];erw[iv,t0,us,rfl,et,iu];erw[iu,v1,u1,rfl,[rfl,aq],v2,u2,rfl,i2,e2];cases(show u2= [] from e2)
 exists 0,t0,_,(0),0,1,SqT.of et,1
 exists 0,t0,_,(1),0,1,SqT.of et,1;erw[id i2,t1,au,rfl,aw,ax];have ac:Ii H t1 ps:=i2;have al:=ad;erw[al,ks,hk,hp];have hM:=M;erw[hM,dx,fs,rv,ru,tv,gv,e,f,ir,ij,ib,hg,gl,it];simp only at f ib gl it;have ae:↑fs<1000:=by have:=f.len;omega
 rcases EB _ hk with Z|⟨Z,am,aa⟩
 ·erw[Acw (P:=P) (base:=base) T C Z,fa,fd,hn,hF,hb,ao];erw[Acx ad Z,z,qs,rfl,ap];have eo:mB m.own (U,.s z::qs) B p=wh B z (made U B m.own (.s z::qs)) p:=by unfold mB;rw[A3 Z];rfl
  rw[eo] at k
  exists 0,U,g.makers,0,1,C.km,hn,0;refine lC ?_
  exists 0,m.x,dx,fs,1,e,f.meth _ (),0
  try dsimp![tC]
  refine Ib (i:=0) ac rfl ?_
  exists 0,U,g.makers,_,.ref fa,1,1,C.km,hn,1,fa,fd,_,Xz U,1,hF,hb,ao
  exists 0,m.x,_,dx,fs,0,e,T.qt,T.Qy,f.boxes,0,m.x,_,dx,fs,0,e,T.qt,T.zd,f.own,0
  exists m.db,t1,m.own,B,.s z::qs,nn,1,ib,hT,ho,ad,ac,λv H1 s1 hv=>?_;exact⟨m,⟨B,p,n,gs,.non⟩,z,v,0,M.same s1,1,ap,hv,λH2 m2 M2=>k H2 ((Mv.of s1).trans m2) M2⟩
 ·exists 0,U,g.makers,0,1,C.km,C.k_no _ am,0;refine iP ?_
  exists 0,g.asking,0,.inr (C.asking _),1,1,0;have ei:inV (.str U) [.str "ask",.str "has",.str "names"]=decide (U∈ASK):=jd (z:=U) (l:=ASK);rw[A2 uc,ei];rcases aa with O|⟨O,aa⟩
  ·refine QM (A6 O) ?_;erw[wA _ hk O,_,_,ek];simp only at ek;subst ek;erw[wY hp,z0,z1,rfl,h0,h1];have eo:mB m.own (U,[.s z0,.s z1]) B p= .stop (sr U (B z1)):=by unfold mB;rw[A2 Z,A3 O];rfl
   rw[eo] at k
   exists 0,0,m.x,_,dx,fs,0,e,T.qt,T.Qy,f.boxes,0
   try dsimp![tC]
   refine nj (i:=1) ib ac rfl h1 λv hv=>?_
   exists U,v,B z1,1,O,hv,λu H1 s1 hu=>?_
   exists 0,m.x,_,dx,fs,1,s1 _ _ e,T.qt,T.qM,ae;erw[yr (r:=⟨B,p,n,gs,sr U (B z1)⟩) (s1 _ _ e) (f.set_there (u:=u)) (ir.mono s1.tk) (ij.mono s1.tk) (ib.same s1) (s1 _ _ hg) (gl.mono s1.tk) hu,m1,m2];exact k _ ((Mv.of s1).trans m2) m1
  ·refine Qw (ue O) ?_
   exists 0,1,0;have es:∀y:Str,decide (V.str U=V.str y)=decide (U=y):=λy=>by
    rw[vc];exact⟨λh=>by injection h,λh=>by rw[h]⟩
   rcases aa with rfl|rfl|⟨hs,hf,hj⟩
   ·refine QM (A6 rfl) ?_;have ek:=Ag _ hk rfl;simp only at ek;subst ek;erw[Acd hp,z0,rfl,h0];have eo:mB m.own ("say",[.s z0]) B p= .stop (.tup [.str "said",B z0]):=by unfold mB;rw[A2 Z,A2 O,A3 rfl];rfl
    rw[eo] at k
    exists 0,m.x,_,dx,fs,0,e,T.qt,T.Qy,f.boxes,0
    try dsimp![tC]
    refine nj (i:=0) ib ac rfl h0 λv hv=>?_
    exists two,λl hl=>?_;have s1:ia H (upd H l (.tup [.str "said",v])):=qf hl _
    exists 0,m.x,_,dx,fs,1,s1 _ _ e,T.qt,T.qM,ae;erw[yr (r:=⟨B,p,n,gs,.tup [.str "said",B z0]⟩) (s1 _ _ e) (f.set_there (u:= .ref l)) (ir.mono s1.tk) (ij.mono s1.tk) (ib.same s1) (s1 _ _ hg) (gl.mono s1.tk) (Is.new (ds:= [.str "said",B z0]) ⟨_,0,[1:yL ()],_,0,hv,1⟩ hl),m1,m2]
    exact k _ ((Mv.of s1).trans m2) m1
   ·have ag:¬(("fault":Str)="say"):=by decide+kernel
    refine Qw (ue λh=>ag (by injection h)) ?_
    exists 0,1,0,QM (A6 rfl) ?_;have eo:mB m.own ("fault",ps) B p= .stop (flt "told"):=by unfold mB;rw[A2 Z,A2 O,A2 ag,A3 rfl]
    rw[eo] at k
    exists two,λl hl=>?_;have s1:ia H (upd H l (.tup [.str "fault",.str "told"])):=qf hl _
    exists 0,m.x,_,dx,fs,1,s1 _ _ e,T.qt,T.qM,ae;erw[yr (r:=⟨B,p,n,gs,flt "told"⟩) (s1 _ _ e) (f.set_there (u:= .ref l)) (ir.mono s1.tk) (ij.mono s1.tk) (ib.same s1) (s1 _ _ hg) (gl.mono s1.tk) (Is.new (ds:= [.str "fault",.str "told"]) ⟨_,0,[1:yL ()],_,0,[1:yL ()],1⟩ hl),m1,m2]
    exact k _ ((Mv.of s1).trans m2) m1
   ·refine Qw (by rw[es];exact ue hs) ?_
    exists 0,1,0,Qw (by rw[es];exact ue hf) ?_
    have eo:mB m.own (U,ps) B p=if MC U B ps=v_ then .go B (oG ps) else .go B (p+1):=by unfold mB;rw[A2 Z,A2 O,A2 hs,A2 hf]
    rw[eo] at k;erw[Bo ad hj,qs,i,ah,h1,h2,hl];simp only at ah hl
    exists 0,m.x,_,dx,fs,0,e,T.qt,T.Qy,f.boxes,0,0,m.db,t1,U,B,ps,nn,1,ib,hT,hj,ad,ac,0;cases ak:MC U B ps with
    |true=>
     rw[ak] at k;refine lC ⟨0,(1),1,?_⟩;refine xT (i:= -1) (d:= .int i) ac (by rw[ah,uD];exact XU _ _) λq hq=>?_
     cases(show q= .int i from hq)
     exists 0,m.x,_,dx,fs,1,e,T.qt,T.Qq,ae;erw[yr (r:=⟨B,i,n,gs,.non⟩) e (f.set_place (q:=i)) ir ij ib hg gl it,m1,m2];refine k _ m2 ?_;show yS _ _ _ ⟨B,oG ps,n,gs,.non⟩;rwa[hl]
    |false=>
     rw[ak] at k;refine iP ⟨0,m.x,_,dx,fs,0,e,T.qt,T.Qq,f.place,p,(1),1,1,dx,fs,e,ae,?_⟩;erw[yr (r:=⟨B,p+1,n,gs,.non⟩) e (f.set_place (q:=p+1)) ir ij ib hg gl it,m1,m2];exact k _ m2 m1
nonrec def Jd (rs:oj Rw)(p:Int):Rw:=rs.getD (p.toNat-1) ("fault",[])
nonrec def mF (rs:oj Rw)(own:Str)(gs:oj D):Nat->(Str->D)->Int->Nat->Rn
 |0,B,p,n=>⟨B,p,n,gs,if p>↑rs then flt "silent" else flt "long"⟩
 |f+1,B,p,n=>if p>↑rs then⟨B,p,n,gs,flt "silent"⟩ else match mB own (Jd rs p) B p with
  | .go B' p'=>mF rs own gs f B' p' (n+1)
  | .stop e=>⟨B,p,if QK e=v_ then n else n+1,gs,e⟩
variable {rs:oj Rw}
def Dc {p:Int}(h1:1<=p)(h2:p<=↑rs):rs[p.toNat-1]? =u_ (Jd rs p):=by
 unfold Jd;have h:p.toNat-1<↑rs:=by omega
 simp[VW,h]
def KC {p:Int}(h1:1<=p)(h2:p<=↑rs):Jd rs p∈rs:=vj (Dc h1 h2)
variable {e:D}
def KB {B:Str->D}(h:Tr B)(O:isT e=v_):Tr (AG B z e):=λy U=>by
 unfold AG;by_cases c:y=z
 ·rwa[A3 c]
 ·rw[A2 c];exact h y U
nonrec def PU (n:Int):Out->Prop
 | .go B p=>Tr B/\1<=p/\p<=n+1
 | .stop e=>∃w d,e= .tup [.str w,d]
def LI {B:Str->D}{p n:Int}(h:Tr B)(h1:1<=p)(h2:p<=n):PU n (wh B z e p):=by
 have O:PU n (if isT e=v_ then .go (AG B z e) (p+1) else .stop (flt "big")):=by
  by_cases c:isT e=v_
  ·rw[A3 c];exact[KB h c:():()]
  ·rw[A2 c];exact[_:0]
 cases e with
 |non=>exact[_:0]
 |_=>exact O
def PF (w:Str)(d:D):∃u e,sr w d= .tup [.str u,e]:=by
 unfold sr;split
 ·split
  ·exact[_:0]
  ·exact[_:0]
 ·split
  ·exact[_:0]
  ·exact[_:0]
variable {own:Str}
def sJ {B:Str->D}{p:Int}(hr:Jb n 300 r)(h:Tr B)(h1:1<=p)(h2:p<=n):PU n (mB own r B p):=by
 unfold mB;by_cases O:r.1∈MKR
 ·rw[A3 O];exact LI h h1 h2
 rw[A2 O];by_cases U:r.1∈ASK
 ·rw[A3 U];exact PF _ _
 rw[A2 U];by_cases Z:r.1="say"
 ·rw[A3 Z];exact[_:0]
 rw[A2 Z];by_cases c4:r.1="fault"
 ·rw[A3 c4];exact[_:0]
 rw[A2 c4];by_cases c5:MC r.1 B r.2=v_
 ·rw[A3 c5];erw[id hr,ks,hk,hp];have hj:r.1∈JMP:=by
   rcases EB _ hk with q|⟨_,_,q|⟨_,q|q|q⟩⟩
   ·exact A7 q O
   ·exact A7 q U
   ·exact A7 q Z
   ·exact A7 q c4
   ·exact q.2.2
  erw[Bo hr hj,qs,i,_,a1,a2,a3];exact⟨h,by rwa[a3],by rw[a3];omega⟩
 ·rw[A2 c5];exact[h:():()]
inductive NI (C:Addr):Sp
 |mk (m:Mc)(r:Rn)(_:vs= [.ref m.x])(_:yS C H m r)(_:r.th= .non)(_:Tr r.B)(_:↑m.own<=100)(_:ya m.rs)(_:1<=r.p)(_:r.p<=↑m.rs+1)(_:r.n<=300)(_:∀(H':Hp),Mv m H H'->yS C H' m (mF m.rs m.own r.gs (300-r.n) r.B r.p r.n)->Q .non H')
def DN:#[C,5,a.JW,a.JD,["self"],(NI a.qo)]:=by
 have ZO:=#[Ln,T,C];have Qa:=#[Kj,T];exists 9,T.iQ,ZM
 erw[h,[x,db,dg,rs,own],[B0,p0,n0,gs,th],rfl,M0,aw,ax,ho,hR,aE,ay,aF,k];simp only at aw ax ho hR aE ay aF k;subst aw;exists 3,%[|#[JZ,#[qm,yI,#[qO,5,pv 0,rfl],qT],%[|#[qI,#[qm,oy,#[qO,5,pv 0,rfl],#[qx,qD,T.Q0,uL,#v[#[qO,5,pv 0,rfl]]]],%[|#[Qm,#[qB,#v[ql,ql]]]],%[|#[qI,#[qm,Qr,#[qO,5,pv 0,rfl],#[Kk,T.m_MOST_DONE]],%[|#[Qm,#[qB,#v[ql,ql]]]],%[#[Qd,#[Qf,pv 0,T.qt,T.lK,ZO,#v[#[qF,qz,#[qO,5,pv 0,rfl],#[qY,WW,#[qO,5,pv 0,rfl],qh]]]]]|#[qI,#[Qv,#[Qh,#[QR,pv 0,T.qt,T.il,Qa]]],%[|#[Jk,10,pv 0,qh,oK]],qr]]]]]]]]
 have two:(2:Nat)<=sizeLine:=by decide
 have n1:=hR.n1;generalize aA:mF rs own gs (300-n0) B0 p0 n0=res at k
 let J1_:Nat->L2.St->Hp->Prop:=λm σ H'=>∃(B:Str->D) (p:Int) (n:Nat) (th:D),σ= [u_ (.ref x)]/\yS a.qo H' ⟨x,db,dg,rs,own⟩ ⟨B,p,n,gs,th⟩/\Mv ⟨x,db,dg,rs,own⟩ H H'/\Tr B/\1<=p/\p<=↑rs+1/\n<=300/\((th= .non/\mF rs own gs (300-n) B p n=res/\m=301-n)∨((∃u e,th= .tup [.str u,e])/\⟨B,p,n,gs,th⟩=res/\m=0))
 exists J1_,⟨_,B0,p0,n0,.non,1,M0,Mv.refl _ _,ax,(),(),(),.inl [1:aA:1]⟩
 rintro m σ H' ⟨B,p,n,th,rfl,M,mv,hT,ad,al,hn,hc⟩;have hM:=M;erw[hM,dx,fs,rv,ru,tv,gv,e,f,ir,ij,ib,hg,gl,it];simp only at e f ir ij ib hg gl it;have aB:↑fs<1000:=by have:=f.len;omega
 exists 0,x,_,dx,fs,tv,1,e,T.qt,T.qM,f.there,1,0;rcases hc with⟨rfl,Z,rfl⟩|⟨⟨u,d,rfl⟩,Z,rfl⟩
 ·cases(show tv= .non from it)
  have ag:∀{H:Hp},Is H .non .non:=rfl;refine QM () ?_
  exists λσ' H2=>∃(B:Str->D) (p:Int) (n2:Nat) (th:D),σ'= [u_ (.ref x)]/\yS a.qo H2 ⟨x,db,dg,rs,own⟩ ⟨B,p,n2,gs,th⟩/\Mv ⟨x,db,dg,rs,own⟩ H H2/\Tr B/\1<=p/\p<=↑rs+1/\n2<=300/\((th= .non/\mF rs own gs (300-n2) B p n2=res/\n<n2)∨((∃u e,th= .tup [.str u,e])/\⟨B,p,n2,gs,th⟩=res)),?_,?_
  ·rintro σ' H2 ⟨B2,p2,n2,aM,rfl,M2,ae,aC,a1,a2,a3,aG⟩;rcases aG with⟨rfl,q1,q2⟩|⟨q0,q1⟩
   ·exact⟨301-n2,(),B2,p2,n2,0,M2,ae,aC,a1,a2,a3,.inl [1:q1:1]⟩
   ·exact⟨(0),(),B2,p2,n2,0,M2,ae,aC,a1,a2,a3,.inr [q0:q1:1]⟩
  ·have aH:=ir;erw[aH,ta,us,rfl,aI,iu];have aN:↑us=↑rs:=by rw[↑iu,ud]
   have fl:∀(z:Str) (H:Hp) (l:o3),↑z<=100->H l=U_->Is (upd H l (.tup [.str "fault",.str z])) (flt z) (.ref l):=λz H l hz hl=>Is.new (ds:= [.str "fault",.str z]) ⟨_,0,[1:yL ()],_,0,[1:yL ()],1⟩ hl
   have aa:∀(z:Str),↑z<=100->⟨B,p,n,gs,flt z⟩=res->∀l,H' l=U_->(λH2=>∃(B:Str->D) (p:Int) (n2:Nat) (th:D),[u_ (V.ref x)]= [u_ (V.ref x)]/\yS a.qo H2 ⟨x,db,dg,rs,own⟩ ⟨B,p,n2,gs,th⟩/\Mv ⟨x,db,dg,rs,own⟩ H H2/\Tr B/\1<=p/\p<=↑rs+1/\n2<=300/\((th= .non/\mF rs own gs (300-n2) B p n2=res/\n<n2)∨((∃u e,th= .tup [.str u,e])/\⟨B,p,n2,gs,th⟩=res))) (upd (upd H' l (.tup [.str "fault",.str z])) x (.ins a.qo dx (iF "there" (.ref l) fs))):=by
    intro z hz aJ l hl;have s1:ia H' (upd H' l (.tup [.str "fault",.str z])):=qf hl _;erw[yr (m:=⟨x,db,dg,rs,own⟩) (r:=⟨B,p,n,gs,flt z⟩) (s1 _ _ e) (f.set_there (u:= .ref l)) (ir.mono s1.tk) (ij.mono s1.tk) (ib.same s1) (s1 _ _ hg) (gl.mono s1.tk) (fl z H' l hz hl),m1,m2];exact⟨B,p,n,flt z,1,m1,mv.trans ((Mv.of s1).trans m2),hT,ad,al,hn,.inr [[_:0]:aJ]⟩
   exists 0,x,_,dx,fs,0,e,T.qt,T.Qq,f.place,0,x,_,dx,fs,0,e,T.qt,T.y7,f.rows,ta,us,1,.inr (SqT.of aI),_,0,1,0;refine lL (λc=>?_) (λc=>?_)
   ·have c':p>↑rs:=by have:=uw c;omega
    have er:⟨B,p,n,gs,flt "silent"⟩=res:=by
     rw[<-Z];cases h3:300-n with
     |zero=>unfold mF;rw[A3 c']
     |succ q=>unfold mF;rw[A3 c']
    exists two,λl hl=>?_;have s1:ia H' (upd H' l (.tup [.str "fault",.str "silent"])):=qf hl _;exact⟨0,x,_,dx,fs,1,s1 _ _ e,T.qt,T.qM,aB,aa "silent" () er l hl⟩
   ·have c':¬p>↑rs:=λh=>c (A6 ())
    exists 0,x,_,dx,fs,0,e,T.qt,T.ye,f.done,1,0;refine lL (λc2=>?_) (λc2=>?_)
    ·have e3:n=300:=by have:=uw c2;injection this with h;omega
     have er:⟨B,p,n,gs,flt "long"⟩=res:=by
      rw[<-Z,e3];show _=mF rs own gs 0 B p 300;unfold mF;rw[A2 c']
     exists two,λl hl=>?_;have s1:ia H' (upd H' l (.tup [.str "fault",.str "long"])):=qf hl _;exact⟨0,x,_,dx,fs,1,s1 _ _ e,T.qt,T.qM,aB,aa "long" () er l hl⟩
    ·have e3:n<300:=by
      rcases UG n 300 with h|h
      ·exact h
      ·exact A7 (A6 (by rw[show n=300 by omega];rfl)) c2
     have am:p<=↑rs:=by omega
     have aD:=hR.ok _ (KC ad am);have hok:=sJ (own:=own) aD hT ad am;have U:res=match mB own (Jd rs p) B p with
       | .go B' p'=>mF rs own gs (300-(n+1)) B' p' (n+1)
       | .stop e=>⟨B,p,if QK e=v_ then n else n+1,gs,e⟩:=by
      rw[<-Z,show 300-n=(300-(n+1))+1 by omega,mF,A2 c']
     exists 0,x,dx,fs,1,e,f.meth _ ()
     exists 0,x,_,dx,fs,0,e,T.qt,T.y7,f.rows,0,x,_,dx,fs,0,e,T.qt,T.Qq,f.place,_,0,1;have aK:atI (rs.map rowD) (p-1)=u_ (rowD (Jd rs p)):=by
      rw[show p-1=((p.toNat-1:Nat):Int) by omega]
      exact qE (by rw[uM,Dc ad am];rfl)
     refine xT (d:=rowD (Jd rs p)) ir aK λq hq=>?_
     exists ⟨x,db,dg,rs,own⟩,⟨B,p,n,gs,.non⟩,Jd rs p,q,↑rs,1,M,1,hT,ho,aD,hq,λH2 m2 M2=>?_;have aL:=M2;erw[aL,af,ac,aO,aP,aQ,aR,e2,f2,ao,ap,ah,aq,au,ag];simp only at e2 f2 ao ap ah aq au ag;have ak:↑ac<1000:=by have:=f2.len;omega
     have ae:=mv.trans m2;generalize hO:mB own (Jd rs p) B p=O at hok U M2 ag ah f2;cases O with
     |go B' p'=>
      erw[hok,q1,q2,q3]
      exists 0,x,af,ac,1,e2,f2.meth _ (),_,0,M2,.inl rfl,0
      refine QM rfl ?_
      exists 0,x,_,af,ac,0,e2,T.qt,T.ye,f2.done,(n:Int),(1),1,1,af,ac,e2,ak;erw[yr (m:=⟨x,db,dg,rs,own⟩) (r:=⟨B',p',n+1,gs,.non⟩) e2 (f2.set_done (k:=n+1)) ao ap ah aq au ag,m3,m4];exact⟨B',p',n+1,.non,1,m3,ae.trans m4,q1,q2,q3,(),.inl [1:U.symm:()]⟩
     |stop d=>
      erw[hok,u,d2,rfl]
      exists 0,x,af,ac,1,e2,f2.meth _ (),_,0,M2,.inr [_:0],0
      cases hw:QK (.tup [.str u,d2]) with
      |true=>
       simp![hw] at U;refine Qw (by show(!QK (.tup [.str u,d2]))=V6;rw[hw];rfl) ?_
       exact⟨B,p,n,0,M2,ae,hT,ad,al,hn,.inr [[_:0]:U.symm]⟩
      |false=>
       simp![hw] at U;refine QM (by show(!QK (.tup [.str u,d2]))=v_;rw[hw];rfl) ?_
       exists 0,x,_,af,ac,0,e2,T.qt,T.ye,f2.done,(n:Int),(1),1,1,af,ac,e2,ak;erw[yr (m:=⟨x,db,dg,rs,own⟩) (r:=⟨B,p,n+1,gs,.tup [.str u,d2]⟩) e2 (f2.set_done (k:=n+1)) ao ap ah aq au ag,m3,m4];exact⟨B,p,n+1,0,m3,ae.trans m4,hT,ad,al,(),.inr [[_:0]:U.symm]⟩
 ·have:tv≠ .non:=by erw[it,_,_,h,_];rw[h];exact λz=>by cases z
  refine Qw (ue this) ?_;refine k H' mv ?_;rw[<-Z];exact M
nonrec def emp (z:Str):D:= .tup [.str z,.str ""]
def Mm {H:Hp}:∀{zs:oj Str}{ys:oj V},L2.IsL H (zs.map emp) ys->∃ts:oj o3,ys=ts.map V.ref/\↑ts=↑zs/\∀(i:Nat) (t:o3) (z:Str),ts[i]? =u_ t->zs[i]? =u_ z->H t=u_ (.tup [.str z,.str ""])
 | [],_,h=>by
  cases(show _= [] from h)
  exact⟨[],1,1,λi t z h=>by simp at h⟩
 |y::zs,_,h=>by
  erw[h,v,r,rfl,[t,us,rfl,O,v1,u1,rfl,[rfl,_],v2,U,rfl,[rfl,_],Z],h2];cases(show U= [] from Z)
  erw[Mm h2,ts,rfl,hl,hi];refine⟨t::ts,1,by rw[uu,hl];rfl,λi q z h1 h3=>?_⟩
  cases i with
  |zero=>
   cases h1;cases h3;exact O
  |succ j=>exact hi j q z (by simpa using h1) (by simpa using h3)
variable {ys:oj V}
def Oj {A:o3}(e:H A=u_ (.lst ys))(h:L2.IsL H (BX.map emp) ys):BN H A (BX.map λz=>(z,V.str "")):=by
 erw[Mm h,ts,rfl,U,hi];exists ts,e,by rw[U,ud],λi t p h1 h2=>?_
 rw[uM] at h2;cases O:BX[i]? with
 |none=>rw[O] at h2;cases h2
 |some z=>
  rw[O] at h2;cases h2;exact hi i t z h1 O
nonrec def B0:Str->D:=λ_=> .str ""
variable {q:o3}
def PB (O:H q=U_):Yr (upd H q (.dK (lN (BX.map λz=>(z,V.str ""))))) q B0:=by
 exists λ_=> .str "",?_,λz _=>[1:yL ()]
 rw[qg];unfold lN kvB;rw[uU]
 rfl
def Se:Tr B0:=λ_ _=>(by decide+kernel:isT (.str "")=v_)
def LW:((BX.map λz=>(z,V.str "")).map (·.1)).Nodup:=by
 rw[uU];show(BX.map id).Nodup;rw[HD]
 decide+kernel
def Di (f:Str)(v:V):∀fs:oj (Str×V),↑(iF f v fs)<=↑fs+1
 | []=>uq _
 |(g,x)::r=>by
  unfold iF;by_cases c:g=f
  ·rw[A3 c];simp
  ·rw[A2 c];have:=Di f v r;simp![uu];omega
nonrec def FLD:oj Str:= ["rows","rule","own","boxes","place","done","given","there"]
def O7:∀m∈MTH,m∉FLD:=by decide+kernel
variable {v:V}
def MM {db dg:o3}(O:(iF "there" .non (iF "given" (.ref dg) (iF "done" (.int 0) (iF "place" (.int 1) (iF "boxes" (.ref db) (iF "own" (.str own) (iF "rule" v (iF "rows" rv [])))))))).length<=20):
  Fl (iF "there" .non (iF "given" (.ref dg) (iF "done" (.int 0) (iF "place" (.int 1) (iF "boxes" (.ref db) (iF "own" (.str own) (iF "rule" v (iF "rows" rv [])))))))) rv v own db dg 1 0 .non:=by
 exists ?_,?_,?_,?_,?_,?_,?_,?_,λm hm=>?_,O
 ·iterate 7 rw[qK,A2 ()]
  rw[qK,A3 rfl]
 ·iterate 6 rw[qK,A2 ()]
  rw[qK,A3 rfl]
 ·iterate 5 rw[qK,A2 ()]
  rw[qK,A3 rfl]
 ·iterate 4 rw[qK,A2 ()]
  rw[qK,A3 rfl]
 ·iterate 3 rw[qK,A2 ()]
  rw[qK,A3 rfl]
 ·iterate 2 rw[qK,A2 ()]
  rw[qK,A3 rfl]
  rfl
 ·rw[qK,A2 (),qK,A3 rfl]
 ·rw[qK,A3 rfl]
 ·have h:=O7 m hm
  iterate 8 rw[qK,A2 (λe=>h (by rw[e];decide+kernel))]
  rfl
structure Ini (n:Nat)(H:Hp)(C x dx:o3)(fs:oj (Str×V))(H':Hp):Prop where
 len:↑fs<=n
 at':H' x=u_ (.ins C dx fs)
 kept:∀b o,H b=u_ o->b≠x->H' b=u_ o
def Ini.put {x:o3}{fs:oj (Str×V)}(I:Ini n H C x dx fs H')(f:Str)(v:V):Ini (n+1) H C x dx (iF f v fs) (upd H' x (.ins C dx (iF f v fs)))/\Tk H' (upd H' x (.ins C dx (iF f v fs))):=
 ⟨⟨uT (Di f v fs) (tP I.len),qg,λb o h n=>by rw[qj n];exact I.kept b o h n⟩,Tk.updI I.at'⟩
def Ini.same {x:o3}{fs:oj (Str×V)}(I:Ini n H C x dx fs H')(s:ia H' H2):Ini n H C x dx fs H2:=[I.len:s _ _ I.at':λb o h n=>s _ _ (I.kept b o h n)]
def AaZ {K:o0}{b A:o3}{H1:Hp}{te:TE}{tl:L2.St}{Q:VK}(O:∀H,SqT K H b (BX.map V.str))(hA:H1 A=U_)
  (U:∀(z:Str) H (R:VK),↑z<=V9->ia H1 H->(∀y H',ia H H'->Is H' (emp z) y->R y H')->te (u_ (.str z)::tl) H R)
  (hQ:∀H' ys,ia H1 H'->H' A=u_ (.lst ys)->L2.IsL H' (BX.map emp) ys->Q (.ref A) H'):Ed A (Itt K b) (YY 0) sA te (U_::tl) H1 Q:=by
 have hl:∀H,L2.IsL H (BX.map D.str) (BX.map V.str):=λH=>IsL.ofStrs λz Z=>yL (by rw[(MR Z).1];decide)
 refine sV (ds:=BX.map D.str) (λd=>match d with| .str z=>emp z|d=>d) (yL ()) hA (λi H sm hi=>⟨BX.map V.str,(BX.map V.str)[i]'(by simpa using hi),O H,um _⟩) (λi H x H' d sm hd y=>?_) (λH sm=>⟨BX.map V.str,O H,by simp⟩) (λd x H R hd sm hx r=>?_) (λH' ys sm e h=>hQ H' ys sm e ?_)
 ·erw[y,rfl,y];erw[(hl H').get hd,v,e1,e2];have:=y _ (O H');rw[e1] at this;cases this;exact[1:e2]
 ·erw[Ac.mp hd,z,_,rfl];erw[hx,rfl,Z];exact U z H R Z sm r
 ·rwa[uU] at h
def LH:∀{d:D},mG d=v_->∃own,d= .str own/\nm own=v_/\↑own<=100
 | .str z,h=>⟨z,1,h,by
  rcases UG 24 ↑z with h1|h1
  ·rw[show mG (.str z)=nm z from rfl,Bc (λq=>by omega)] at h
   cases h
  ·omega⟩
def sj {n:Nat}:∀{ds:oj D},ds.all (λd=>(Qt n d).isSome)=v_->((ds.filterMap (Qt n)).map λr=>D.str (Yc r))=ds/\↑(ds.filterMap (Qt n))=↑ds/\∀r∈ds.filterMap (Qt n),Jb n 300 r
 | [],_=>⟨1,1,λr h=>by simp at h⟩
 |d::ds,h=>by
  rw[vv,uF] at h;erw[XY h.1,r,O];erw[sj h.2,Z,i2,i3];cases d with
  |str z=>
   obtain⟨h1,h2⟩:=AJ (show wM n z=u_ r from O)
   rw[U4 O];exists by rw[uC,h2,Z],by rw[uu,uu,i2],λx U=>?_
   rcases A9.mp U with rfl|U
   ·exact h1
   ·exact i3 x U
  |_=>cases O
def IW:∀{d:D}{rs:oj Rw},QI d=u_ rs->ya rs/\d=Ji rs
 | .tup ds,rs,h=>by
  rw[XL] at h;split at h
  ·rename_i O
   cases h;simp![uF,ve] at O;erw[O,[[h1,h2],h3],h4];erw[sj h3,U,Z,i3];have e:Ji (ds.filterMap (Qt ↑ds))= .tup ds:=A8 D.tup U;exact⟨⟨(),(),λr hr=>by rw[Z];exact i3 r hr,by rwa[e]⟩,e.symm⟩
  ·cases h
inductive IE (C br bn:Addr)(vs:List V)(H:Hp)(Q:VK)(E:XK):Prop
 |mk (x dx:Addr)(v ov:V)(d od:D)(_:vs= [.ref x,v,ov])(_:H x=u_ (.ins C dx []))(_:Is H d v)(_:Is H od ov)(_:(QI d=U_->∀(e:Addr)(H':Hp),(∀b o,H b=u_ o->b≠x->H' b=u_ o)->E (.ref e) (u_ br) H'))(_:(QI d≠U_->mG od=V6->∀(e:Addr)(H':Hp),(∀b o,H b=u_ o->b≠x->H' b=u_ o)->E (.ref e) (u_ bn) H'))(_:(∀(rs:List Rw)(own:Str),d=Ji rs->ya rs->od= .str own->nm own=v_->↑own<=100->∀(H':Hp)(db dg:Addr),(∀b o,H b=u_ o->b≠x->H' b=u_ o)->H db=U_->H dg=U_->yS C H' ⟨x,db,dg,rs,own⟩ (mF rs own [] 300 B0 1 0)->Q .non H'))
def AY (T:Tx K mg a)(C:Fx K w mg g a):FnOk P w K mg base (CX1 P w) 6 a.jc a.xw ["self","rule","own"] (IE a.qo g.br g.bn):=by
 have Q5:=#[zu,T];have O:=#[Oy,T,C];have Yv:=#[DN,T,C];refine T.lc.F.okX Wi () (λ_ _ _ _ H _ Q E hr h=>?_)
 erw[h,x,dx,v,ov,d,od,rfl,hx,hv,ho,kR,kN,k];exists 3,%[#[Qm,#[qv,16,O,hr.mono (),_,T.lj.m,T.lj.F.kp,T.lj.b,.nil,Aco,#v[pv 1],_,_,_]],#[qI,#[Qv,#[Qh,#[qv,Q5,T.io,#v[pv 2]]]],%[|#[AT,22,C.x_BadName,_,C.m_BadName,ql,_,_]],qr],#[Qm,pv 1],#[Qm,pv 2],#[Qm,#[qW,#[Cl,1,rfl],T.z_dict,boot_dict,#v[#[xN,["box"],(1),[],Sl,#[Xo,#[pe_gR,C.m_BOXES]],(λ_ _ _ _ _ _=>#[qN,(0),(show Vl (["box"]:oj Str) by decide+kernel)]),(λ_ _ _ _ _ _=>#[qB,#v[pv 0,ql]])]]]],#[Qm,qh],#[Qm,qh],#[Qm,#[Q9,qd]],#[Qm,qT]|#[Qd,#[QR,pv 0,T.qt,T.iQ,Yv]]]
 exists 0,v,d,1,hv,λrs al rv H1 s1 ir=>?_,λhn e H1 s1=>kR hn e H1 λb o h _=>s1 b o h
 exists 0,x,_,dx,[],1,s1 _ _ hx,T.qt,T.y7,()
 have I0:Ini 0 H a.qo x dx [] H1:=[uq _:s1 _ _ hx:λb o h _=>s1 _ _ h];erw[I0.put "rows" rv,I1,t1];have aA:=ir.mono t1;have htk:∀{n:Nat}{fs:oj (Str×V)}{H':Hp},Ini n H a.qo x dx fs H'->Tk H H':=λ{n fs H'} I=>⟨λb xs e=>I.kept b _ e (λz=>by rw[z,hx] at e;cases e),λb xs e=>⟨_,I.kept b _ e (λz=>by rw[z,hx] at e;cases e)⟩,λb xs e=>⟨_,I.kept b _ e (λz=>by rw[z,hx] at e;cases e)⟩⟩
 exists 0,ov,od,1,ho.mono (htk I1),λH3 s3=>[0:?_];have I3:=I1.same s3;cases ac:mG od with
 |false=>exact lC ⟨1,λe=>kN (by rw[al];simp) ac e H3 I3.kept⟩
 |true=>
 refine iP ?_;erw[IW al,hR,rfl];erw[LH ac,own,rfl,ac,am];cases(show ov= .str own from ho.1)
 have n1:=hR.n1;have k:=k rs own rfl hR rfl ac am;have aB:=aA.mono s3.tk
 exists 5
 refine⟨0,0,x,_,dx,0,I3.at',T.qt,T.Wr,by have:=I3.len;omega,?_⟩
 erw[I3.put "rule" v,I4,t4];have aC:=aB.mono t4
 exists 5
 refine⟨0,0,x,_,dx,0,I4.at',T.qt,T.zd,by have:=I4.len;omega,?_⟩
 erw[I4.put "own" (.str own),I5,t5];have aD:=aC.mono t5
 exists g.boxes,0,C.boxes _,λaO A0 aE=>?_;refine AaZ (tl:= []) C.boxes aE (λz H6 R hz s6 r=>[0:(sml rfl):λl hl=>r _ _ (qf hl _) (Is.new (ds:= [.str z,.str ""]) ⟨_,0,[1:hz],_,0,[1:yL ()],1⟩ hl)]) λH6 ys s6 e6 i6=>?_
 exists A0,0,Oj e6 i6,LW,(),λdb Z=>?_
 have I6:=I5.same s6;have s7:ia H6 (upd H6 db (.dK (lN (BX.map λz=>(z,V.str ""))))):=qf Z _;have I7:=I6.same s7;have b7:=PB Z;have aF:=(aD.mono s6.tk).mono s7.tk;have nx:∀b o,H b=u_ o->b≠x->b≠db:=λb o h n=>qk (I6.kept b o h n) Z;have U:x≠db:=qk I6.at' Z
 exists 5
 refine⟨0,x,_,dx,0,I7.at',T.qt,T.Qy,by have:=I7.len;omega,?_⟩
 erw[I7.put "boxes" (.ref db),I8,t8];have b8:=b7.move t8 (qj U.symm);have aG:=aF.mono t8
 exists 5
 refine⟨0,x,_,dx,0,I8.at',T.qt,T.Qq,by have:=I8.len;omega,?_⟩
 erw[I8.put "place" (.int 1),I9,t9];have b9:=b8.move t9 (qj U.symm);have aH:=aG.mono t9
 exists 5
 refine⟨0,x,_,dx,0,I9.at',T.qt,T.ye,by have:=I9.len;omega,?_⟩
 erw[I9.put "done" (.int 0),ad,ao];have aI:=b9.move ao (qj U.symm);have ap:=aH.mono ao
 exists (sml rfl),λdg ae=>?_;have af:=qf ae (.lst []);have ag:=ad.same af;have aJ:=aI.same af;have aq:=ap.mono af.tk;have ah:dg≠x:=(qk ad.at' ae).symm
 exists 5
 refine⟨0,x,_,dx,0,ag.at',T.qt,T.YG,by have:=ag.len;omega,?_⟩
 erw[ag.put "given" (.ref dg),ak,au];have aK:=aJ.move au (qj U.symm);have aw:=aq.mono au
 exists 5
 refine⟨0,x,_,dx,0,ak.at',T.qt,T.qM,by have:=ak.len;omega,?_⟩
 erw[ak.put "there" .non,aa,ax];have aL:=aK.move ax (qj U.symm);have ay:=aw.mono ax;have hl:=aa.len
 exists 0,x,dx,0,aa.at',(MM ()).meth _ ()
 have aM:Is _ (Ji rs) v:=hv.mono (htk aa);have frs:∀{b:o3}{H2:Hp},(∀c o,H c=u_ o->c≠x->H2 c=u_ o)->H2 b=U_->b≠x->H b=none:=λ{b H2} k1 h1 n1=>by
  cases hc:H b with
  |none=>rfl
  |some o=>rw[k1 b o hc n1] at h1;cases h1
 have aN:∀b o,H b=u_ o->b≠x->b≠dg:=λb o h n=>qk (ad.kept b o h n) ae
 exists 5
 refine⟨⟨x,db,dg,rs,own⟩,⟨B0,(1),(0),[],.non⟩,1,⟨dx,_,rv,v,.non,[],aa.at',MM (),ay,aM,aL,?_,1,1⟩,1,Se,am,hR,Int.le_refl 1,by show(1:Int)<=(↑rs:Int)+1;omega,uP _,λH' m M=>k H' db dg (λb o h n=>m.kept b o (aa.kept b o h n) n (nx b o h n) (aN b o h n)) (frs I6.kept Z U.symm) (frs ad.kept ae ah) M⟩
 rw[qj ah,qj ah,qg]
nonrec def j9 (z:Str):Bool:=z.cps.toList.all QC
def DR {y:Str}(h:j9 z=v_)(k:j9 y=v_):j9 (z++y)=true:=by
 unfold j9 at*;show(z.cps++y.cps).toList.all QC=v_;rw[TL,UP,h,k];rfl
mutual
noncomputable def lw:D->Bool
 | .str z=>j9 z
 | .tup xs=>lwL xs
 |_=>V6
noncomputable def lwL:oj D->Bool
 | []=>v_
 |x::r=>lw x&&lwL r
end
def sT (z:Str):↑z=↑z.cps.toList:=by show z.cps.size=_;simp
def El (h:j9 z=v_)(O:↑z<=300):isT (.str z)=true:=by
 have U:QB z=true:=by
  unfold QB;rwa[A6 O,Tn]
 have Z:sz (.str z)<=600:=by simp![sz];omega
 have e2:dp (.str z)<=12:=by simp![dp];omega
 have e3:iK (.str z)=true:=by simp![iK];exact U
 unfold isT;rw[e3,A6 Z,A6 e2]
 rfl
nonrec def isP:D->Bool
 | .tup xs=>decide (↑xs=2)
 |_=>V6
nonrec def oJ:D->Bool
 | .tup [k,d]=>if eqD k (.str "made")=v_ then mG d else(eqD k (.str "leaf")||eqD k (.str "rule"))&&isT d
 |_=>V6
nonrec def okS:D->Bool
 | .tup [k,_]=>Ms k&&decide (dp k<=60)
 |_=>v_
inductive Nx:Sp
 |mk (v:_)(d:_)(_:vs= [v])(_:Is H d v)(_:Q (.bl (isP d)) H)
inductive CU:Sp
 |mk (v:_)(d:_)(_:vs= [v])(_:Is H d v)(_:okS d=v_)(_:∀H',ia H H'->Q (.bl (oJ d)) H')
inductive NM (K:PySem.W.Frag):Sp
 |mk (q:Addr)(ns:List Int)(k:Int)(_:vs= [.ref q,.int k])(_:0<=k)(_:SqL K H q (ns.map V.int))(_:∀i:Int,Q (.int i) H)
def ld {b:Bool}{A B:Prop}(O:b=v_)(h:A):if b=v_ then A else B:=by rw[A3 O];exact h
def iL {b:Bool}{A B:Prop}(O:b=V6)(h:B):if b=v_ then A else B:=by rw[A2 (by rw[O];exact uc)];exact h
def OE:#[T,1,a.f_is_pair,a.d_is_pair,["value"],Nx]:=by
 exists 9,T.md,BW
 erw[h,v,d,rfl,U,k];exists 3,%[|#[qp,#[Xs,#[qx,#[Qb,2,rfl],T.qS,vd,#v[pv 0,#[yc,.ty "tuple",T.QH,vn]]],#[xn,#[Qg,Qr,#[qx,JE,T.Q0,uL,#v[pv 0]],qh]]]]]
 exists 0,v,"tuple",tyD d,zQ d,1,U.ty,xZ d,0;cases Z:zQ d with
 |false=>
  refine iP ?_;have e:isP d=false:=by cases d<;>first|rfl|simp[zQ] at Z
  rwa[e] at k
 |true=>
  obtain⟨xs,rfl⟩:∃xs,d= .tup xs:=by cases d<;>simp[zQ] at Z;exact⟨0⟩
  erw[U,p,us,rfl,hp,O];have lu:=↑O;refine lC [0:.inr ⟨p,us,1,.inr (SqT.of hp),λ_=>[1:?_]⟩];have e:decide (V.int (↑us:Int)=V.int 2)=isP (.tup xs):=by
   simp![isP,vc];constructor
   ·intro h;have:=V.int.inj h;omega
   ·intro h;rw[lu,h]
    rfl
  rwa[<-e] at k
def DD:#[T,3,a.wX,a.ZX,["value"],CU]:=by
 have O:=#[OE,T];have Q5:=#[zu,T];have yG:=#[jo,T];exists 9,T.mJ,nO,Z
 erw[h,v,d,rfl,hv,hok,k];exists 3,%[#[qI,#[Qv,#[Qh,#[qv,16,O,Z.mono (),_,T.md.m,T.md.F.kp,T.md.b,.nil,qA,#v[pv 0],_,_,_]]],%[|#[qp,YV]],qr],#[qI,#[qm,#[AaC,1,Z.units],#[qF,qz,pv 0,qh],ql],%[|#[qp,#[qv,16,Q5,Z.mono (),_,T.io.m,T.io.F.kp,T.io.b,.nil,qA,#v[#[qF,qz,pv 0,qh]],_,_,_]]],qr]|#[qp,#[Xs,#[Qg,8,#[Mp,1,Z.units],#[qF,qz,pv 0,qh],#[qB,#v[ql,ql]],#[w]],#[xn,#[qv,16,yG,Z.mono (),_,T.iC.m,T.iC.F.kp,T.iC.b,.nil,qA,#v[#[qF,qz,pv 0,qh]],_,_,_]]]]]
 exists 0,v,0,hv,0;cases hP:isP d with
 |false=>
  refine lC ?_;have e:oJ d=false:=by
   cases d with
   |tup xs=>
    match xs,hP with
    | [],_=>rfl
    | [_],_=>rfl
    | [_,_],h=>simp[isP] at h
    |_::_::_::_,_=>rfl
   |_=>rfl
  have:=k H (ia.refl _);rwa[e] at this
 |true=>
  refine iP ?_;obtain⟨z,e,rfl⟩:∃z e,d= .tup [z,e]:=by
   cases d with
   |tup xs=>
    match xs,hP with
    | [],h=>simp[isP] at h
    | [_],h=>simp[isP] at h
    | [x,y],_=>exact[x:y:1]
    |_::_::_::_,h=>simp[isP] at h
   |_=>simp[isP] at hP
  erw[id hv,p,us,rfl,hp,x1,r1,rfl,h1,x2,r2,rfl,h2,h3];cases(show r2= [] from h3)
  have U:Ms z=v_/\dp z<=60:=by simpa [okS] using hok
  exists 0,p,_,_,0,1,SqT.of hp,1,z,"made",h1,1,(),U.1,U.2,0
  cases c:eqD z (.str "made") with
  |true=>
   refine lC ⟨0,p,_,_,0,1,SqT.of hp,1,x2,e,1,h2,λH' s'=>?_⟩;have:=k H' s';simp![oJ,c,if_true] at this;exact this
  |false=>
   refine iP ⟨0,p,_,_,0,1,SqT.of hp,1,(sml rfl),λq hq=>?_⟩;have s1:ia H (upd H q (.tup [.str "leaf",.str "rule"])):=qf hq _
   exists z,q,["leaf","rule"],h1.mono s1.tk,1,.inr (SqT.of qg),(),U.1,U.2,0
   have e2:(["leaf","rule"]:oj Str).any (λy=>eqD z (.str y))=(eqD z (.str "leaf")||eqD z (.str "rule")):=by simp
   rw[e2];cases c2:(eqD z (.str "leaf")||eqD z (.str "rule")) with
   |true=>
    refine lC ⟨0,p,_,_,0,1,SqT.of (s1 _ _ hp),1,x2,e,1,h2.mono s1.tk,λH' s'=>?_⟩;have:=k H' (s1.trans s');simp![oJ,c,c2,Tn,UM,if_false] at this;exact this
   |false=>
    refine iP ?_;have:=k _ s1;simp![oJ,c,c2,RH,UM,if_false] at this;exact this
def DO:#[T,1,a.XE,a.Xt,["script","k"],(NM K)]:=by
 exists 9,T.lE,Wv
 erw[h,q,ns,j,rfl,h0,O,k];exists 3,%[#[qI,#[qm,Dv,pv 1,#[qx,qD,T.Q0,uL,#v[pv 0]]],%[|#[qp,#[qF,Yj,pv 0,pv 1]]],qr]|#[qp,qh]]
 exists 0,0,q,0,.inl O,_,0,1,0;refine lL (λc=>?_) (λc=>?_)
 ·have Z:j<(↑(ns.map V.int):Int):=uw c;erw[jJ h0 Z,v,U];erw[Ac.mp (Xk U),i,_,rfl];exact⟨0,0,q,_,_,0,1,O,U,k _⟩
 ·exact k 0
nonrec def okN (z:Str):Bool:=(z.cps.toList.map λc=>inS ⟨#[c]⟩ NSG).all id
def wL (h:nm z=v_):1<=↑z/\↑z<=24:=by
 by_cases c:1<=(↑z:Int)/\(↑z:Int)<=24
 ·omega
 ·rw[Bc c] at h;cases h
nonrec def Nms (zs:oj Str):Prop:=(∀z∈zs,nm z=v_)/\zs.Nodup
nonrec def Wp (d:D):Prop:=(∃k e,d= .tup [.str k,e])/\oJ d=v_/\lw d=v_/\sz d<=306
nonrec def prD (p:Str×D):D:= .tup [.str p.1,p.2]
nonrec def AcR (ps:oj (Str×D)):Prop:=Nms (ps.map (·.1))/\∀p∈ps,Wp p.2
def DQ (h:okN z=v_):j9 z=true:=by
 unfold j9;rw[Ub];intro c U;have:=List.all_eq_true.mp h _ (Ac.mpr [c:U:1]);rw[id,Ph] at this;have O:∀c∈NSG.cps.toList,QC c=true:=by decide+kernel
 exact O c (uw this)
def Mw (h:nm z=v_):okN z=true:=by
 have O:=wL h;cases h3:inS ⟨#[z.cps.getD 0 0]⟩ LET with
 |false=>rw[Bd h3] at h;cases h
 |true=>
  rw[DU () () h3] at h
  exact h
def Iz (h:nm z=v_):Wp (.tup [.str "made",.str z]):=by
 have O:=wL h;refine⟨[_:0],?_,?_,by simp![sz,szL];show 1+(("made":Str).length+1+(↑z+1+0))<=306;have:("made":Str).length=4:=rfl;omega⟩
 ·show(if eqD (.str "made") (.str "made")=v_ then nm z else(eqD (.str "made") (.str "leaf")||eqD (.str "made") (.str "rule"))&&isT (.str z))=v_
  rw[A3 ()]
  exact h
 ·have:j9 "made"=true:=by decide+kernel
  simp![lw,lwL,this,DQ (Mw h)]
  rfl
def IA {k:Str}{d:D}(O:k="leaf"∨k="rule")(h:isT d=v_)(U:lw d=v_)(hz:sz d<=300):Wp (.tup [.str k,d]):=by
 have Z:↑k=4:=by rcases O with rfl|rfl<;>rfl
 refine⟨[_:0],?_,?_,by simp![sz,szL];omega⟩
 ·show(if eqD (.str k) (.str "made")=v_ then mG d else(eqD (.str k) (.str "leaf")||eqD (.str k) (.str "rule"))&&isT d)=v_
  have e1:eqD (.str k) (.str "made")=false:=by rcases O with rfl|rfl<;>decide+kernel
  have e2:(eqD (.str k) (.str "leaf")||eqD (.str k) (.str "rule"))=true:=by rcases O with rfl|rfl<;>decide+kernel
  rw[e1,e2,h]
  rfl
 ·have:j9 k=true:=by
   rcases O with rfl|rfl<;>decide+kernel
  simp![lw,lwL,this,U]
  rfl
def Nh {d:D}(h:Wp d):okS d=true:=by
 erw[h,[k,e,rfl],_];simp[okS,Ms,trD,dp]
def Yb (h:↑z<=16000000):Is H (.str z) (.str z):=[1:fits h]
nonrec def qH (ps:oj (Str×D))(z:Str):D:=((ps.find? λp=>decide (p.1=z)).map (·.2)).getD .non
nonrec def zn (vs:oj (Str×V))(z:Str):V:=(iW (lN vs) (Va z)).getD .non
def Xw (p:Str×V)(r:oj (Str×V)):lN (p::r)=(Va p.1,p.2)::lN r:=rfl
def Cf {H:Hp}{z:Str}:∀{ps:oj (Str×D)}{vs:oj (Str×V)},vs.map (·.1)=ps.map (·.1)->IsL H (ps.map (·.2)) (vs.map (·.2))->z∈ps.map (·.1)->iW (lN vs) (Va z)=u_ (zn vs z)/\Is H (qH ps z) (zn vs z)
 | [],_,_,_,h=>nomatch h
 |p::ps,[],e,_,_=>by simp at e
 |p::ps,v::vs,e,hi,hz=>by
  simp![uC,UQ] at e;erw[hi,u,r,e2,h1,h2];simp![uC,UQ] at e2;erw[e2,rfl,rfl];by_cases c:p.1=z
  ·have O:v.1=z:=e.1.trans c;have U:iW (lN (v::vs)) (Va z)=u_ v.2:=by
    rw[Xw];exact QQ (by rw[O])
   have Z:qH (p::ps) z=p.2:=by simp[qH,v5,c]
   unfold zn;rw[U,Z];exact[1:h1]
  ·have O:¬v.1=z:=λq=>c (e.1.symm.trans q);have U:iW (lN (v::vs)) (Va z)=iW (lN vs) (Va z):=by
    rw[Xw];exact QJ (λq=>O (Um q))
   have Z:qH (p::ps) z=qH ps z:=by simp[qH,v5,c]
   have aa:z∈ps.map (·.1):=by
    rcases A9.mp hz with h|h
    ·exact A7 h.symm c
    ·exact h
   have ih:=Cf e.2 h2 aa;unfold zn at*;rw[U,Z];exact ih
def LA {z:Str}:∀{vs:oj (Str×V)},z∉vs.map (·.1)->iW (lN vs) (Va z)=U_
 | [],_=>rfl
 |v::vs,h=>by
  rw[Xw,QJ (λq=>h (by rw[<-Um q];exact uj ..))]
  exact LA λm=>h (ui _ m)
def Mi:∀{ps:oj (Str×D)},(ps.map (·.1)).Nodup->(ps.map (·.1)).map (λz=>(z,qH ps z))=ps
 | [],_=>rfl
 |p::ps,h=>by
  have h':=List.nodup_cons.mp h;have O:qH (p::ps) p.1=p.2:=by simp[qH,v5]
  rw[uC,uC,O]
  congr 1
  refine Eq.trans (UD λz U=>?_) (Mi h'.2);have:¬p.1=z:=λq=>h'.1 (by show p.1∈_;rwa[q])
  simp[qH,v5,this]
nonrec def BR (ps:oj (Str×D))(ms:oj Str):oj (Str×D):=ms.map λz=>(z,qH ps z)
def KS (ps:oj (Str×D))(O:oj Str):(BR ps O).map (·.1)=O:=by
 unfold BR;rw[uU];exact(UD λ_ _=>rfl).trans (HD O)
def AB {ps:oj (Str×D)}{O:oj Str}(hn:(ps.map (·.1)).Nodup)(h:O.Perm (ps.map (·.1))):(BR ps O).Perm ps:=by
 have:=h.map λz=>(z,qH ps z);rwa[Mi hn] at this
nonrec def yw (C:o3)(H:Hp)(x:o3)(qs:oj (Str×D)):Prop:=∃(dx d:o3) (o:Obj) (vs:oj (Str×V)),H x=u_ (.ins C dx [("by_name",.ref d)])/\H d=u_ (.frz o (.dK (lN vs)))/\vs.map (·.1)=qs.map (·.1)/\L2.IsL H (qs.map (·.2)) (vs.map (·.2))
variable {qs:oj (Str×D)}
def yw.same {x:o3}(h:yw C H x qs)(s:ia H H'):yw C H' x qs:=by
 erw[h,dx,d,o,vs,h1,h2,h3,h4];exact⟨dx,d,o,vs,s _ _ h1,s _ _ h2,h3,h4.mono s.tk⟩
nonrec def Qi (qs:oj (Str×D)):Prop:=AcR qs/\sortedS (qs.map (·.1))=v_/\↑qs<=60
inductive NG (C:Addr):Sp
 |mk (x dx t:Addr)(ps:List (Str×D))(us:List V)(_:vs= [.ref x,.ref t])(_:H x=u_ (.ins C dx []))(_:H t=u_ (.tup us))(_:L2.IsL H (ps.map prD) us)(_:AcR ps)(_:↑ps<=60)(_:∀(qs:List (Str×D))(H':Hp),(∀b o,H b=u_ o->b≠x->H' b=u_ o)->yw C H' x qs->Qi qs->qs.Perm ps->Q .non H')
variable {l:oj Str}
def Nms.perm {m:oj Str}(h:Nms m)(p:l.Perm m):Nms l:=[λz O=>h.1 z (p.mem_iff.mp O):(p.nodup_iff).mpr h.2]
def EX {ps:oj (Str×D)}{d:D}(hn:(ps.map (·.1)).Nodup)(h:(z,d)∈ps):qH ps z=d:=by
 induction ps with
 |nil=>cases h
 |cons p r Z=>
  have O:=List.nodup_cons.mp hn;rcases A9.mp h with h|h
  ·subst h;simp[qH,v5]
  ·have:¬p.1=z:=λq=>O.1 (by show p.1∈_;rw[q];exact Ac.mpr [_:h:1])
   have U:=Z O.2 h
   simpa [qH,v5,this] using U
def EY {ps:oj (Str×D)}(hn:(ps.map (·.1)).Nodup)(h:z∈ps.map (·.1)):(z,qH ps z)∈ps:=by
 erw[Ac.mp h,p,O,rfl];rw[EX hn (show(p.1,p.2)∈ps from O)]
 exact O
def Er (vs:oj (Str×V))(z:Str)(v:V):lN (vs++ [(z,v)])=lN vs++ [(Va z,v)]:=by
 unfold lN;rw[uD]
 rfl
def AdM {α β:Type}(f:α->β){l:oj α}(h:i<↑l):(l.map f)[i]? =u_ (f l[i]):=by
 rw[uM,um h]
 rfl
def Ix {α:Type}{l:oj α}(h:i<↑l):l.take (i+1)=l.take i++ [l[i]]:=by
 rw[vx,um h]
 rfl
def ON:#[T,4,a.jf,a.xo,["self","sources"],(NG a.qJ)]:=by
 have Q5:=#[zu,T];have U:=#[DD,T];refine T.lZ.F.ok yK () (λ_ _ _ _ H vs Q E hr h=>?_)
 erw[h,x,dx,t,ps,us,rfl,hx,ht,ap,hok,aL,k];have hs:=uI;exists 3,%[#[qG,2,(2),4,yK.nd,rfl,gY rfl,ZW,_,_],#[Je,#[AU,4,pv 1],#[wC,Qe #[qN,(3),yK.nd] (Qe #[qN,(4),yK.nd] YH)],%[#[qI,#[Qv,#[Qh,#[qv,Q5,T.io,#v[pv 3]]]],%[|YZ],qr],#[qI,#[Qv,#[Qh,#[qv,U,T.mJ,#v[pv 4]]]],%[|YZ],qr],#[qI,#[AQ,6,#[Dp,5,yb hr,pv 3,pv 2],_],%[|YZ],qr],#[qI,#[qm,Qr,#[qx,E9,T.Q0,uL,#v[pv 2]],#[Kk,T.m_MOST_NAMES]],%[|YZ],qr]|#[Xh,9,yb hr,pv 2,pv 3,pv 4,rfl]]]|#[Qm,#[qW,#[Cm,1,rfl],T.z_dict,boot_dict,#v[#[xN,["name","by_name"],(1),[2],Ea (qi yZ) ["self","sources","by_name","name","source"],#[Kt,4,#[qx,#[oW,1,rfl],T.z_sorted,boot_sorted,#v[pv 2]]],(λ_ _ _ _ _ _=>#[qN,(0),(show Vl (["name","by_name"]:oj Str) by decide+kernel)]),(λ_ _ _ _ _ _=>#[qB,#v[pv 0,#[QO,pv 1,pv 0]]])]]]]]
 intro d hd;have s1:ia H (upd H d (.dK [])):=qf hd _;have aM:d≠x:=λe=>by rw[e,hx] at hd;cases hd
 have aq:=↑ap;rw[ud] at aq
 exists 5
 refine⟨0,t,1,[_:SqT.of (s1 _ _ ht)],KA (K:=K) (a:=t) (xs:=us) (λi σ H'=>∃(vs:oj (Str×V)) (nv sv:om V),σ= [u_ (.ref x),u_ (.ref t),u_ (.ref d),nv,sv]/\ia H H'/\H' d=u_ (.dK (lN vs))/\vs.map (·.1)=(ps.take i).map (·.1)/\L2.IsL H' ((ps.take i).map (·.2)) (vs.map (·.2)))
  ⟨[],U_,U_,1,s1,qg,1,1⟩ (λi σ H' _ ⟨_,_,_,_,sm,_⟩=>SqT.of (sm _ _ ht)) ?_ ?_⟩
 ·rintro i y σ H' hi ⟨vs,nv,sv,rfl,sm,ac,hk,hv⟩;have aN:i<↑us:=(Ae.mp hi).1;have Z:i<↑ps:=by omega
  erw[ap.get (AdM prD Z),v,e1,e2];rw[hi] at e1;cases e1;have au:=hok.2 _ (uO Z);have aB:nm ps[i].1=true:=hok.1.1 _ (Ac.mpr [_:uO Z:1]);erw[au,[sk,sd,aO],aC,aP];erw[e2,p,ws,rfl,hp,w1,r1,rfl,[rfl,hz],w2,r2,rfl,h2,h3];cases(show r2= [] from h3)
  have aD:=sm _ _ hp
  exists p,0,SqT.of aD,1,_,0,_,0,1
  exists 0,_,.str ps[i].1,1,[1:hz],λH3 s3=>⟨0,iL (by simp[mG,aB]) ?_⟩
  have aw:Is H3 ps[i].2 w2:=h2.mono (sm.trans s3).tk
  exists 0,w2,ps[i].2,1,aw,Nh (hok.2 _ (uO Z)),λH4 s4=>⟨0,iL (by rw[aC];rfl) ?_⟩
  have af:=s3.trans s4;have ad:=af _ _ ac;have nk:ps[i].1∉vs.map (·.1):=by
   rw[hk];have aa:=hok.1.2;have e:ps.map (·.1)=(ps.take i).map (·.1)++ps[i].1::(ps.drop (i+1)).map (·.1):=by
    rw[<-uC (f:=λx:Str×D=>x.1),<-vb Z,<-uD,Te]
   rw[e,List.nodup_append] at aa;exact λm=>aa.2.2 _ m _ (uj ..) rfl
  have ev:=LA nk;have aE:↑vs=i:=by
   have:=A8 g_ hk;rw[ud,ud,vM] at this;omega
  exists 0,0,d,0,m9.k (k:=Va ps[i].1) ad,0,iL (by rw[ev];rfl) ?_
  exists 0,d,0,ad,1,0,iL (ue λq=>?_) ?_
  ·have:=V.int.inj q;unfold lN at this;rw[ud] at this;omega
  ·have aF:↑(lN vs)<sizeLine:=by
    unfold lN;rw[ud];omega
   exists 0,0,0,d,0,Il.k (k:=Va ps[i].1) ad aF;have tk:Tk H4 (upd H4 d (.dK (l8 (lN vs) (Va ps[i].1) w2))):=Tk.updD ad
   exists vs++ [(ps[i].1,w2)],_,0,?_,?_,?_,?_
   ·intro b o e;rw[qj (qk e hd)];exact(sm.trans af) _ _ e
   ·rw[qg,AN _ ev,Er]
   ·rw[Ix Z,uD,uD,hk]
    rfl
   ·rw[Ix Z,uD,uD];exact(((hv.mono af.tk).mono tk)).append (L2.IsL.one ((aw.mono s4.tk).mono tk))
 ·rintro σ H1 ⟨vs,nv,sv,rfl,sm,ac,hk,hv⟩;rw[aq,Uc] at hk hv;have aE:↑vs=↑ps:=by
   have:=A8 g_ hk
   rwa[ud,ud] at this
  have ag:(lN vs).map (·.1)=(ps.map (·.1)).map Sum.inr:=by rw[Wo,hk]
  exists 5
  refine⟨0,d,lN vs,ps.map (·.1),1,ac,ag,by rw[ud];omega,λms q O ah hq=>⟨q,1,[_:SqL.of qg],λA0 ak=>?_⟩⟩
  have s2:ia H1 (upd H1 q (.lst (ms.map V.str))):=qf hq _;have aQ:↑ms=↑ps:=by
   have:=O.length_eq
   rwa[ud] at this
  refine Pb (K:=K) (tl:= [u_ (.ref d)]) (λi ys H'=>∃ts:oj o3,ys=ts.map V.ref/\↑ts=i/\ia H1 H'/\H' A0=u_ (.lst ys)/\∀(j:Nat) (t:o3) (z:Str),ts[j]? =u_ t->ms[j]? =u_ z->H' t=u_ (.tup [.str z,zn vs z])) qg () ak
   ⟨[],1,1,s2.trans (qf ak _),qg,λj t z h=>by simp at h⟩ ?_ ?_
  ·rintro i z ys H' hz ⟨ts,rfl,ae,s3,hA,al⟩ _ _ _ R r;have aG:z∈ps.map (·.1):=O.mem_iff.mp (vj hz);have lk:=Cf hk hv aG
   exists 0,0,0,d,zn vs z,1,?_,(sml rfl),λt2 am=>?_
   ·have:=m9.k (k:=Va z) (s3 _ _ ac);rwa[lk.1] at this
   ·have s4:=qf am (.tup [V.str z,zn vs z]);have aH:t2≠A0:=λe=>by rw[e,hA] at am;cases am
    refine r _ _ (s4 _ _ hA) (s4 _ _ (by assumption)) ⟨ts++ [t2],by rw[uD];rfl,by rw[uB,ae];rfl,?_,qg,?_⟩
    ·intro b o e;have nb:b≠A0:=qk (s2 _ _ e) ak;rw[qj nb];exact s4 _ _ (s3 _ _ e)
    ·intro j t z' h1 h2;rcases UG j i with hj|hj
     ·rw[UA ()] at h1
      have:=al j t z' h1 h2;have nb:t≠A0:=λe=>by rw[e,hA] at this;cases this
      rw[qj nb];exact s4 _ _ this
     ·have aI:j=i:=by
       have:=(Ae.mp h1).1;rw[uB] at this;have:j<↑ts+1:=this;omega
      subst aI;rw[hz] at h2;cases h2;rw[Uw (),ae,Nat.sub_self] at h1
      cases h1;rw[qj aH];exact qg
  ·rintro ys H2 ⟨ts,rfl,ae,s3,hA,al⟩ _;have aa:=hok.1.2;have aJ:ms.Nodup:=O.nodup_iff.mpr aa;have ax:(ms.map λz=>(z,zn vs z)).map (·.1)=ms:=by
    rw[uU];exact(UD λ_ _=>rfl).trans (HD ms)
   exists 5
   refine⟨A0,ms.map λz=>(z,zn vs z),1,⟨ts,hA,by rwa[ud],λj t p h1 h2=>?_⟩,by rwa[ax],by rw[ud];omega,λq2 o ao=>?_⟩
   ·rw[uM] at h2;cases h3:ms[j]? with
    |none=>rw[h3] at h2;cases h2
    |some z=>
     rw[h3] at h2;cases h2;exact al j t z h1 h3
   ·have s4:=qf ao (.frz o (.dK (lN (ms.map λz=>(z,zn vs z)))));have ay:H1 x=u_ (.ins a.qJ dx []):=sm _ _ hx;have aA:=s4 _ _ (s3 _ _ ay);have nq:q2≠x:=λe=>by rw[e,s3 _ _ ay] at ao;cases ao
    exists 0,x,a.qJ,dx,[],1,aA,T.Q3,T.Q7,(by show 0<1000;decide)
    refine k (BR ps ms) _ ?_ ⟨dx,q2,o,ms.map λz=>(z,zn vs z),qg,by rw[qj nq];exact qg,by rw[ax,KS],?_⟩ ⟨[?_:?_],by rwa[KS],by unfold BR;rw[ud];omega⟩ (AB aa O)
    ·intro b ob e nb;rw[qj nb];exact s4 _ _ (s3 _ _ (sm _ _ e))
    ·have tk:Tk H1 (upd (upd H2 q2 (.frz o (.dK (lN (ms.map λz=>(z,zn vs z)))))) x (.ins a.qJ dx (iF "by_name" (.ref q2) []))):=(s3.trans s4).tk.trans (Tk.updI aA);have aK:∀l:oj Str,(∀z∈l,z∈ps.map (·.1))->L2.IsL H1 ((BR ps l).map (·.2)) ((l.map λz=>(z,zn vs z)).map (·.2)):=by
      intro l
      induction l with
      |nil=>exact λ_=>rfl
      |cons z r ih=>exact λh=>⟨_,0,(Cf hk hv (h z (uj ..))).2,ih λy hy=>h y (ui _ hy)⟩
     exact(aK ms λz hz=>O.mem_iff.mp hz).mono tk
    ·rw[KS];exact hok.1.perm O
    ·intro p hp;exact hok.2 p ((AB aa O).mem_iff.mp hp)
def EE:Vz ("by_name":Str) [(("by_name":Str),v)]=u_ v:=by simp[Vz]
def Ye:Vz ("source_of":Str) [(("by_name":Str),v)]=none:=by
 have:(("source_of":Str)=="by_name")=false:=by decide+kernel
 simp[Vz,this]
inductive we (C:Addr):Sp
 |mk (x:Addr)(z:Str)(qs:List (Str×D))(_:vs= [.ref x,.str z])(_:yw C H x qs)(_:∀v:V,(z∈qs.map (·.1)->Is H (qH qs z) v)->(z∉qs.map (·.1)->v= .non)->Q v H)
def jK:#[T,1,a.YB,a.YO,["self","name"],(we a.qJ)]:=by
 refine T.ii.F.ok xg () (λ_ _ _ _ H vs Q E U h=>?_)
 erw[h,x,z,qs,rfl,[dx,d,o,vs,Z,hd,O,hv],k];exists 3,%[|#[qp,#[AV,7,yb U,#[qO,5,pv 0,rfl],pv 1,⟨1,1,1,1⟩]]]
 exists 0,x,a.qJ,dx,_,0,Z,T.Q3,T.Q7,EE,d,1,.inl [_:.inr [o:hd]],0,_,.inl ⟨_,Va z,.inr [o:hd],1,1⟩;refine k _ (λc=>?_) λc=>?_
 ·exact(Cf O hv c).2
 ·rw[LA (by rwa[O])]
  rfl
nonrec def BZ (zs:oj Str):D:= .tup (zs.map D.str)
nonrec def AL (acc:oj Str):oj Str->oj Str
 | []=>acc
 |z::r=>if isT (BZ (acc++ [z]))=v_ then AL (acc++ [z]) r else acc
inductive W5 (K:PySem.W.Frag):Sp
 |mk (L:Addr)(zs:List Str)(_:vs= [.ref L])(_:H L=u_ (.lst (zs.map V.str)))(_:(∀z∈zs,↑z<=100))(_:↑zs<=100)(_:∀(v:V)(H':Hp),ia H H'->Is H' (BZ (AL [] zs)) v->Q v H')
variable {xs:oj V}{Q:VK}
def Adk {K:o0}{a:o3}{x:V}(ha:H a=u_ (.tup xs))(O:↑xs+1<=V9)(k:∀p H',ia H H'->H' p=u_ (.tup (xs++ [x]))->Q (.ref p) H'):
  [x].length<=V9/\∀q,H q=U_->IX K (.ref a) (.ref q) (upd H q (.tup [x])) Q:=by
 exists sml rfl,λq U=>?_;have s1:ia H (upd H q (.tup [x])):=qf U _;exists a,q,xs,[x],1,1,SqT.of (s1 _ _ ha),SqT.of qg,O,λe=>?_,(λ_ e=>by cases e),λ_ _ p Z=>?_
 ·refine k q _ s1 ?_;rw[e];exact qg
 ·exact k p _ (s1.trans (qf Z _)) qg
variable {zs:oj Str}{p:o3}
def Ek (h:H p=u_ (.tup (zs.map V.str)))(U:∀z∈zs,↑z<=100):Is H (BZ zs) (.ref p):=by
 have O:∀(zs:oj Str),(∀z∈zs,↑z<=100)->IsL H (zs.map D.str) (zs.map V.str):=by
  intro zs
  induction zs with
  |nil=>exact λ_=>rfl
  |cons z r Z=>
   intro h;exact⟨_,0,⟨1,fits (by have:=h z (uj ..);omega)⟩,Z λy hy=>h y (ui _ hy)⟩
 exact⟨p,0,h,O zs U⟩
def AK:∀(zs O:oj Str) (z:Str),z∈AL O zs->z∈O∨z∈zs
 | [],O,z,h=> .inl h
 |y::r,O,z,h=>by
  unfold AL at h;split at h
  ·rcases AK r _ z h with h|h
   ·rcases Ab.mp h with h|h
    ·exact .inl h
    ·exact .inr (by rw[Aa.mp h];exact uj ..)
   ·exact .inr (ui _ h)
  ·exact .inl h
inductive C3 (C:Addr):Sp
 |mk (x t:Addr)(kind text:Str)(qs:List (Str×D))(_:vs= [.ref x,.ref t])(_:yw C H x qs)(_:Qi qs)(_:H t=u_ (.tup [.str kind,.str text]))(_:↑text<=1000)(_:((kind="has"/\Q (.str (if text∈qs.map (·.1) then "yes" else "no")) H)∨(kind="names"/\∀(v:V)(H':Hp),ia H H'->Is H' (BZ (AL [] ((qs.map (·.1)).filter λz=>Gg z text))) v->Q v H')))
def Pk {vs:oj (Str×V)}(O:vs.map (·.1)=qs.map (·.1))(hi:L2.IsL H (qs.map (·.2)) (vs.map (·.2)))(z:Str):(iW (lN vs) (Va z)).isSome=decide (z∈qs.map (·.1)):=by
 by_cases c:z∈qs.map (·.1)
 ·rw[(Cf O hi c).1,A6 c]
  rfl
 ·rw[LA (by rw[O];exact c),ue c]
  rfl
def Ca:#[T,3,a.XX,a.XI,["names"],(W5 K)]:=by
 have yG:=#[jo,T];exists 9,T.mf,y6
 erw[h,L,zs,rfl,hL,hz,hn,k];have hs:=uI;exists 3,%[#[qG,(1),y6.nd,#[qB,qd]],#[Je,#[Kt,4,pv 0],#[qN,(2),y6.nd],%[#[qI,#[Qv,#[Qh,#[qv,yG,T.iC,#v[#[qY,wN,pv 1,#[qB,#v[pv 2]]]]]]],%[|IY],qr]|#[qG,(1),y6.nd,#[qY,wN,pv 1,#[qB,#v[pv 2]]]]]]|#[qp,pv 1]]
 exists (sml rfl),λq hq=>?_;have s1:ia H (upd H q (.tup [])):=qf hq _
 exists 5
 refine⟨0,L,1,[_:SqL.of (s1 _ _ hL)],Bx (K:=K) (a:=L) (xs:=zs.map V.str) (λi σ H'=>∃(row:oj Str) (p:o3) (kv:om V),σ= [u_ (.ref L),u_ (.ref p),kv]/\H' p=u_ (.tup (row.map V.str))/\ia H H'/\AL row (zs.drop i)=AL [] zs/\↑row<=i/\∀z∈row,z∈zs)
  ⟨[],q,U_,1,qg,s1,1,uq _,λz h=>nomatch h⟩ (λi σ H' _ ⟨_,_,_,_,_,s2,_⟩=>SqL.of (s2 _ _ hL)) ?_ ?_⟩
 ·rintro i x σ H' hi ⟨row,p,kv,rfl,Z,s2,O,hl,hm⟩;have U:i<↑zs:=by
   have:=(Ae.mp hi).1
   simpa using this
  obtain rfl:x=V.str zs[i]:=by
   rw[uM,um U] at hi;exact(uN hi).symm
  have ed:zs.drop i=zs[i]::zs.drop (i+1):=vb U;rw[ed] at O;rw[show AL row (zs[i]::zs.drop (i+1))=if isT (BZ (row++ [zs[i]]))=v_ then AL (row++ [zs[i]]) (zs.drop (i+1)) else row from rfl] at O
  have aa:∀z∈row++ [zs[i]],z∈zs:=λz h=>by
   rcases Ab.mp h with h|h
   ·exact hm z h
   ·rw[Aa.mp h];exact uO U
  have hsz:↑(row.map V.str)+1<=sizeLine:=by rw[ud];omega
  have em:row.map V.str++ [V.str zs[i]]=(row++ [zs[i]]).map V.str:=by simp
  exists 0,0,Adk Z hsz λp2 H3 s3 h3=>⟨_,BZ (row++ [zs[i]]),1,Ek (by rw[h3,em]) λz h=>hz z (aa z h),λH4 s4=>[0:?_]⟩
  cases hT:isT (BZ (row++ [zs[i]])) with
  |false=>
   rw[A2 (by rw[hT];exact uc)] at O
   refine lC [0:k _ H4 ((s2.trans s3).trans s4) ?_];rw[<-O];exact Ek (s4 _ _ (s3 _ _ Z)) λz h=>hz z (hm z h)
  |true=>
   rw[A3 hT] at O;refine iP [0:0:Adk (s4 _ _ (s3 _ _ Z)) hsz λp5 H5 s5 h5=>?_];exact⟨row++ [zs[i]],p5,0,by rw[h5,em],((s2.trans s3).trans s4).trans s5,O,by rw[uB];show ↑row+1<=i+1;omega,aa⟩
 ·rintro σ H' ⟨row,p,kv,rfl,Z,s2,O,hl,hm⟩
  exists 0,k _ H' s2 ?_;rw[ud,List.drop_length] at O;rw[<-O];exact Ek Z λz h=>hz z (hm z h)
def oz:#[T,4,a.YT,a.YC,["self","ask"],(C3 a.qJ)]:=by
 have kZ:=#[Ca,T];refine T.iG.F.ok xf () (λ_ _ _ _ H vs Q E hr h=>?_)
 erw[h,x,t,kind,text,qs,rfl,[dx,d,o,vs,hx,hd,hk,hv],U,Z,ad,h];have hs:=uI;exists 3,%[#[qI,#[qm,Qr,#[qF,qz,pv 1,qh],ql],%[|#[qp,#[Q6,#[AQ,6,#[Dp,5,yb hr,#[qF,qz,pv 1,qh],#[qO,5,pv 0,rfl]],_],ql,ql]]],qr]|#[qp,#[qv,kZ,T.mf,#v[#[xN,2,["name","ask"],(1),[1],9,Ea (qi QT) ["self","ask"],rfl,#[Om,4,#[qO,5,pv 0,rfl]],(λ_ _ _ _ _ _=>#[qN,(0),(show Vl (["name","ask"]:oj Str) by decide+kernel)]),(λ_ _ _ _ _ _=>#[Dl,3,#[Qh,#[Aax,1,K,11,rfl,uX,PySem.F.slot_str_startswith,PySem.F.type_str_startswith,DZ,pv 0,#v[#[qF,#[Kc,1,K,rfl],pv 1,qh]],_,_,_,_,_]]]),(λ_ _ _ _ _ _=>(pv 0)),_]]]]]
 exists 0,t,_,_,0,1,SqT.of Z,1,1,0;rcases h with⟨rfl,k⟩|⟨rfl,k⟩
 ·refine ld (A6 rfl) ?_
  exists 0,t,_,_,0,1,SqT.of Z,1,0,x,a.qJ,dx,_,0,hx,T.Q3,T.Q7,EE,d,0,.inl ⟨_,Va text,.inr [o:hd],1,1⟩,0;rw[Pk hk hv];by_cases c:text∈qs.map (·.1)
  ·rw[A3 c] at k;exact ld (A6 c) k
  ·rw[A2 c] at k;exact iL (ue c) k
 ·refine iL () ?_
  have O:(lN vs).map (·.1)=(qs.map (·.1)).map Sum.inr:=by rw[Wo,hk]
  exists 0,x,a.qJ,dx,_,0,hx,T.Q3,T.Q7,EE,d,o,0,hd,λA0 aa=>?_;refine Pd (tl:= [u_ (.ref t)]) (λz=>Gg z text) V.str hd O (by rw[ud];have:=U.2.2;omega) aa (λz H1 R hz s1 r=>?_) (λz H1 R hz s1 r=>[0:r]) λH1 s1 h1=>?_
  ·exact⟨0,1,0,t,_,_,0,1,SqT.of (s1 _ _ Z),1,z,text,1,1,0,r⟩
  ·exists A0,0,h1,λz hz=>?_,?_,λv H2 s2 ac=>k v H2 (s1.trans s2) ac
   ·have:=wL (U.1.1.1 z (List.mem_filter.mp hz).1);omega
   ·have:=HV (λz=>Gg z text) (qs.map (·.1));rw[ud] at this;have:=U.2.2;omega
nonrec def YI:D->Bool
 | .non=>v_
 |_=>V6
nonrec def XT:D->D
 | .tup [_,d]=>d
 |d=>d
nonrec def X6 (d:D):Prop:=d= .non∨isT d=v_
nonrec def Gd (d:D):Prop:=iK d=v_/\dp d<=20
def Aa9:∀z∈(["kind","big","told","silent","long","name"]:oj Str),iK (flt z)=true:=by decide+kernel
def MK (h:z∈(["kind","big","told","silent","long","name"]:oj Str)):Gd (flt z):=⟨Aa9 z h,by show dp (.tup [.str "fault",.str z])<=20;simp[dp,dpL]⟩
def Aa8 {u:Str}{d:D}(O:QB u=v_)(h:isT d=v_):Gd (.tup [.str u,d]):=by
 have U:=yj h;have hd:=xr h;exists ?_,?_
 ·simp![iK,goodL,O,U,vU]
  rfl
 ·simp![dp,dpL];omega
def Bq {u w:Str}{d:D}(O:QB u=v_)(U:QB w=v_)(h:isT d=v_):Gd (.tup [.str u,.tup [.str w,d]]):=by
 have Z:=yj h;have hd:=xr h;exists ?_,?_
 ·simp![iK,goodL,O,U,Z,vU]
  rfl
 ·simp![dp,dpL];omega
def NW {B:Str->D}{p:Int}(hr:Jb n 300 r)(h:Tr B)(O:mB own r B p= .stop e):Gd e:=by
 unfold mB at O;erw[id hr,ks,hk,hp];erw[r,U,ps];by_cases c1:U∈MKR
 ·rw[A3 c1] at O;simp only at O;generalize made U B own ps=dm at O;have aa:(if isT dm=v_ then Out.go (AG B (b0 ps) dm) (p+1) else .stop (flt "big"))= .stop e->Gd e:=by
   intro hq;by_cases c:isT dm=v_
   ·rw[A3 c] at hq;cases hq
   ·rw[A2 c] at hq;cases hq;exact MK ()
  cases dm with
  |non=>cases O;exact MK ()
  |_=>exact aa O
 rw[A2 c1] at O;by_cases c2:U∈ASK
 ·rw[A3 c2] at O;cases O;erw[wA _ hk c2,_,_,Z];simp only at Z;subst Z;erw[wY hp,z0,z1,rfl,h0,h1];have hT:=h z1 h1;show Gd (sr U (B z1));unfold sr;by_cases d1:U="names"
  ·rw[A3 d1];by_cases d2:isStr (B z1)=v_
   ·rw[A3 d2];exact Bq () () hT
   ·rw[A2 d2];exact MK ()
  ·rw[A2 d1];by_cases d2:mG (B z1)=v_
   ·rw[A3 d2];refine Bq () ?_ hT
    split<;>decide+kernel
   ·rw[A2 d2];exact MK ()
 rw[A2 c2] at O;by_cases c3:U="say"
 ·rw[A3 c3] at O;cases O;subst c3;have Z:=Ag _ hk rfl;simp only at Z;subst Z;erw[Acd hp,z0,rfl,h0];exact Aa8 () (h z0 h0)
 rw[A2 c3] at O;by_cases c4:U="fault"
 ·rw[A3 c4] at O;cases O;exact MK ()
 rw[A2 c4] at O;by_cases c5:MC U B ps=v_
 ·rw[A3 c5] at O;cases O
 ·rw[A2 c5] at O;cases O
nonrec def mo (rs:oj Rw)(own:Str)(r:Rn)(a:D):Rn:=if YI a=v_ then⟨r.B,r.p,r.n+1,r.gs++ [.tup [XT r.th,a]],flt "lack"⟩ else mF rs own (r.gs++ [.tup [XT r.th,a]]) (300-(r.n+1)) (AG r.B (b0 (Jd rs r.p).2) a) (r.p+1) (r.n+1)
structure Ih (rs:oj Rw)(r:Rn):Prop where
 tr:Tr r.B
 p1:1<=r.p
 p2:r.p<=↑rs+1
 n:r.n<=300
 gd:Gd r.th
 two:∃w e,r.th= .tup [.str w,e]
 gs:nL r.gs=v_/\dpL r.gs<=30/\↑r.gs<=r.n
 ask:QK r.th=v_->r.p<=↑rs/\(Jd rs r.p).1∈ASK/\r.n<300/\∃(u:Str) (d:D),r.th= .tup [.str "asks",.tup [.str u,d]]/\u∈(["thing","has","names"]:oj Str)/\isT d=v_
mutual
theorem kK:∀{d:D},iK d=v_->nD d=v_
 | .str _,_=>rfl
 | .tup xs,h=>by
  simp![iK,uF] at h;simp![nD];exact goodL_n h.2
 | .non,h=>by simp[iK] at h
 | .bl _,h=>by simp[iK] at h
 | .int _,h=>by simp[iK] at h
 | .lst,h=>by simp[iK] at h
 | .dct,h=>by simp[iK] at h
theorem goodL_n:∀{ds:oj D},goodL ds=v_->nL ds=v_
 | [],_=>rfl
 |d::ds,h=>by
  simp![goodL,uF] at h;simp![nL];rw[kK h.1,goodL_n h.2]
  rfl
end
def Be:∀{xs ys:oj D},nL xs=v_->nL ys=v_->nL (xs++ys)=v_
 | [],_,_,h=>h
 |x::xs,ys,h,h2=>by
  simp![nL,uF] at h;simp![U9,nL];rw[h.1,Be h.2 h2]
  rfl
def Aj (n:Nat){xs ys:oj D}(h:dpL xs<=n)(h2:dpL ys<=n):dpL (xs++ys)<=n:=by
 rw[wv] at h h2⊢;intro x O;rcases Ab.mp O with O|O
 ·exact h x O
 ·exact h2 x O
def IV {B:Str->D}{p:Int}(hr:Jb n 300 r)(h:Tr B)(O:mB own r B p= .stop e)(U:QK e=v_):r.1∈ASK/\∃(u:Str) (d:D),e= .tup [.str "asks",.tup [.str u,d]]/\u∈(["thing","has","names"]:oj Str)/\isT d=true:=by
 unfold mB at O;erw[id hr,ks,hk,hp];erw[r,Z,ps];by_cases c1:Z∈MKR
 ·rw[A3 c1] at O;simp only at O;generalize made Z B own ps=dm at O;have aa:(if isT dm=v_ then Out.go (AG B (b0 ps) dm) (p+1) else .stop (flt "big"))= .stop e->False:=by
   intro hq;by_cases c:isT dm=v_
   ·rw[A3 c] at hq;cases hq
   ·rw[A2 c] at hq;cases hq;exact A7 U ()
  cases dm with
  |non=>cases O;exact A7 U ()
  |_=>exact(aa O).elim
 rw[A2 c1] at O;by_cases c2:Z∈ASK
 ·rw[A3 c2] at O;cases O;exists c2;erw[wA _ hk c2,_,_,ek];simp only at ek;subst ek;erw[wY hp,z0,z1,rfl,h0,h1];have hT:=h z1 h1;have U:QK (sr Z (B z1))=true:=U;show∃u d,sr Z (B z1)=_/\_;unfold sr at U⊢;by_cases d1:Z="names"
  ·rw[A3 d1] at U⊢;by_cases d2:isStr (B z1)=v_
   ·rw[A3 d2];exact⟨_,0,(),hT⟩
   ·rw[A2 d2] at U;exact A7 U ()
  ·rw[A2 d1] at U⊢;by_cases d2:mG (B z1)=v_
   ·rw[A3 d2];exact⟨_,0,by split<;>decide+kernel,hT⟩
   ·rw[A2 d2] at U;exact A7 U ()
 rw[A2 c2] at O;by_cases c3:Z="say"
 ·rw[A3 c3] at O;cases O;exact A7 U (by simp![QK];exact λh=>A7 (uw h) ())
 rw[A2 c3] at O;by_cases c4:Z="fault"
 ·rw[A3 c4] at O;cases O;exact A7 U ()
 rw[A2 c4] at O;by_cases c5:MC Z B ps=v_
 ·rw[A3 c5] at O;cases O
 ·rw[A2 c5] at O;cases O
def sI {rs:oj Rw}{own:Str}(hR:ya rs):∀(f:Nat) (B:Str->D) (p:Int) (n:Nat) (gs:oj D),f+n=300->Tr B->1<=p->p<=↑rs+1->nL gs=v_/\dpL gs<=30/\↑gs<=n->Ih rs (mF rs own gs f B p n)
 |0,B,p,n,gs,hf,hT,h1,h2,hg=>by
  have U:QK (if p>↑rs then flt "silent" else flt "long")=false:=by split<;>decide+kernel
  refine⟨hT,h1,h2,by show n<=300;omega,?_,?_,hg,λh=>A7 (U.symm.trans h) ()⟩
  ·show Gd (if p>↑rs then flt "silent" else flt "long")
   split
   ·exact MK ()
   ·exact MK ()
  ·show∃w e,(if p>↑rs then flt "silent" else flt "long")=_
   split
   ·exact[_:0]
   ·exact[_:0]
 |f+1,B,p,n,gs,hf,hT,h1,h2,hg=>by
  unfold mF;by_cases c:p>↑rs
  ·rw[A3 c];exact⟨hT,h1,h2,by show n<=300;omega,MK (),[_:0],hg,λh=>A7 h (show¬QK (flt "silent")=v_ by decide+kernel)⟩
  ·rw[A2 c];have O:=hR.ok _ (KC h1 ())
   have hok:=sJ (own:=own) O hT h1 ()
   cases Z:mB own (Jd rs p) B p with
   |go B' p'=>
    rw[Z] at hok;exact sI hR f B' p' (n+1) gs () hok.1 hok.2.1 hok.2.2 ⟨hg.1,hg.2.1,by have:=hg.2.2;omega⟩
   |stop e=>
    rw[Z] at hok;simp only;exists hT,h1,h2,?_,NW O hT Z,hok,[hg.1:hg.2.1:?_],λU=>?_
    ·show(if QK e=v_ then n else n+1)<=300
     split<;>omega
    ·show ↑gs<=(if QK e=v_ then n else n+1)
     have:=hg.2.2;split<;>omega
    ·erw[IV O hT Z U,a1,u,d,a2,a3,a4];refine⟨by show p<=↑rs;omega,a1,?_,u,d,a2,a3,a4⟩
     show(if QK e=v_ then n else n+1)<300
     rw[A3 (show QK e=v_ from U)]
     omega
def At (Z:ya rs){r:Rn}{a:D}(h:Ih rs r)(hw:QK r.th=v_)(ha:X6 a):Ih rs (mo rs own r a):=by
 erw[h.ask hw,k1,k2,k3,u,d,e,k4,k5];have O:nD a=v_/\dp a<=12:=by
  rcases ha with rfl|ha
  ·exact⟨1,by simp[dp]⟩
  ·exact[kK (yj ha):xr ha]
 have aa:=xr k5;have U:nL (r.gs++ [D.tup [XT r.th,a]])=v_/\dpL (r.gs++ [D.tup [XT r.th,a]])<=30/\↑(r.gs++ [D.tup [XT r.th,a]])<=r.n+1:=by
  rw[e];show nL (r.gs++ [.tup [.tup [.str u,d],a]])=v_/\_;exists Be h.gs.1 ?_,Aj 30 h.gs.2.1 ?_,?_
  ·simp![nL,nD,kK (yj k5),O.1,vU]
  ·show dpL [.tup [.tup [.str u,d],a]]<=30;simp![dpL,dp];have:=O.2;omega
  ·rw[uB];have:=h.gs.2.2;show ↑r.gs+1<=r.n+1;omega
 unfold mo;cases hn:YI a with
 |true=>
  rw[A3 rfl];exact⟨h.tr,h.p1,h.p2,by show r.n+1<=300;omega,⟨(by decide+kernel:iK (flt "lack")=v_),by show dp (.tup [.str "fault",.str "lack"])<=20;simp[dp,dpL]⟩,[_:0],U,λh=>A7 h (show¬QK (flt "lack")=v_ by decide+kernel)⟩
 |false=>
  rw[A2 uc];have hT:isT a=true:=by
   rcases ha with rfl|ha
   ·cases hn
   ·exact ha
  refine sI Z _ _ _ _ _ () (KB h.tr hT) (by have:=h.p1;omega) () U
def YL {d:D}{u:V}(O:Is H d u)(U:d≠ .non):u≠ .non:=by
 rintro rfl;cases d with
 |non=>exact U rfl
 |bl b=>cases(show V.non= .bl b from O)
 |int i=>cases(show V.non= .int i from O)
 |str z=>erw[O,h,_];cases h
 |lst=>erw[O,_,_,h,_];cases h
 |dct=>erw[O,_,_,h,_];cases h
 |tup xs=>erw[O,_,_,h,_];cases h
def Abm (O:Jb n 300 r)(hs:r.1∈ASK):∃U z1,r.2= [.s U,.s z1]/\U∈BX:=by
 erw[id O,ks,hk,hp];erw[wA _ hk hs,_,_,Z];simp only at Z;subst Z;erw[wY hp,x,y,e,hx,hy];exact⟨x,y,e,hx⟩
nonrec def LG:D->Bool
 | .tup xs=>xs.all mG
 |_=>V6
nonrec def BL (u:Str)(a:D):Bool:=if YI a=v_ then decide (u="thing") else if isT a=v_ then(if u="has" then(["yes","no"]:oj Str).any (λz=>eqD a (.str z)) else decide (u="thing")||LG a) else V6
def Au {u:Str}{a:D}(h:BL u a=v_):X6 a:=by
 unfold BL at h;cases hn:YI a with
 |true=>
  cases a with
  |non=>exact .inl rfl
  |_=>cases hn
 |false=>
  rw[hn,A2 uc] at h;by_cases c:isT a=v_
  ·exact .inr c
  ·rw[A2 c] at h;cases h
inductive Nr:Sp
 |mk (v:V)(d:D)(_:vs= [v])(_:Is H d v)(_:isT d=v_)(_:∀H',ia H H'->Q (.bl (LG d)) H')
inductive IH:Sp
 |mk (v1 v2:V)(u:Str)(d a:D)(_:vs= [v1,v2])(_:Is H (.tup [.str u,d]) v1)(_:Is H a v2)(_:∀H',ia H H'->Q (.bl (BL u a)) H')
inductive Aaa (C:Addr):Sp
 |mk (m:Mc)(r:Rn)(v:V)(u:Str)(d a:D)(_:vs= [.ref m.x,v])(_:yS C H m r)(_:Ih m.rs r)(_:r.th= .tup [.str "asks",.tup [.str u,d]])(_:Is H a v)(_:ya m.rs)(_:↑m.own<=100)(_:BL u a=v_)(_:∀H',Mv m H H'->yS C H' m (mo m.rs m.own r a)->Q .non H')
def Oz:#[T,2,a.jt,a.js,["tree"],Nr]:=by
 have Q5:=#[zu,T];refine T.iD.F.ok XF () (λ_ _ _ _ H vs Q E hr h=>?_)
 erw[h,v,d,rfl,iv,hT,k];exists 3,%[|#[qp,#[Xs,#[qx,#[Qb,2,rfl],T.qS,vd,#v[pv 0,#[yc,.ty "tuple",T.QH,vn]]],#[xn,#[qx,#[Jy,1,rfl],T.z_all,h_,#v[#[xN,["part"],(1),[],Sl,#[Xo,pv 0],(λ_ _ _ _ _ _=>#[qN,(0),(show Vl (["part"]:oj Str) by decide+kernel)]),(λ_ _ _ _ _ _=>#[qv,Q5,T.io,#v[pv 0]])]]]]]]]
 exists 0,v,"tuple",tyD d,zQ d,1,iv.ty,xZ _;cases d with
 |tup xs=>
  exists 0,lC ?_;erw[iv,a0,vs,rfl,O,U];have hl:↑xs<=1000:=by
   have hg:=yj hT;simp![iK,uF] at hg;have:=uw hg.1;omega
  exists 0,a0,vs,1,SqT.of O,λaa A0 Z=>?_;refine sU (tl:= []) (λd=> .bl (mG d)) O U (yL hl) Z (λd0 x0 H3 R ac s3 i3 r=>?_) λH1 ys s1 l1 i1=>?_
  ·exact⟨0,x0,d0,1,i3,λH4 s4=>r _ H4 s4 rfl⟩
  have ey:ys=(xs.map mG).map V.bl:=IsL.bls (by rwa[uU])
  exists A0,xs.map mG,1,SqL.of (by rw[l1,ey])
  have:(xs.map mG).all id=LG (.tup xs):=by rw[Uq];rfl
  rw[this];exact k H1 s1
 |str z=>exact[0:iP (k H (ia.refl _))]
 |non=>exact[0:iP (k H (ia.refl _))]
 |int z=>exact[0:iP (k H (ia.refl _))]
 |bl z=>exact[0:iP (k H (ia.refl _))]
 |lst=>exact[0:iP (k H (ia.refl _))]
 |dct=>exact[0:iP (k H (ia.refl _))]
def Lh:#[T,3,a.wW,a.wt,["ask","answer"],IH]:=by
 have yG:=#[jo,T];have zp:=#[Oz,T];exists 9,T.mK,nP,Z
 erw[h,v1,v2,u,d,an,rfl,i1,U,k];exists 3,%[#[qI,#[qm,yI,pv 1,qT],%[|#[qp,#[Qg,Qr,#[qF,XO,pv 0,qh],ql]]],qr],#[qI,#[Qv,#[Qh,#[qv,16,yG,Z.mono (),_,T.iC.m,T.iC.F.kp,T.iC.b,.nil,qA,#v[pv 1],_,_,_]]],%[|#[qp,YV]],qr],#[qI,#[qm,Qr,#[qF,XO,pv 0,qh],ql],%[|#[qp,#[Qg,8,#[Mp,1,Z.units],pv 1,#[qB,#v[ql,ql]],#[w]]]],qr]|#[qp,#[Aav,7,#[Qg,Qr,#[qF,XO,pv 0,qh],ql],#[xn,#[qv,16,zp,Z.mono (),_,T.iD.m,T.iD.F.kp,T.iD.b,.nil,qA,#v[pv 1],_,_,_]]]]]
 have two:(2:Nat)<=sizeLine:=by decide
 have es:∀y:Str,decide (V.str u=V.str y)=decide (u=y):=λy=>by
  rw[vc];exact⟨λh=>by injection h,λh=>by rw[h]⟩
 have iu:∀{H:Hp}{Q:VK},Is H (.tup [.str u,d]) v1->Q (.str u) H->Od K v1 (.int 0) H Q:=λ{H Q} i q=>xT (i:=0) (d:= .str u) i (qE (j:=0) rfl) λx hx=>by
  erw[hx,rfl,_];exact q
 exists 0,1,0;unfold BL at k;by_cases cn:an= .non
 ·subst cn;cases(show v2= .non from U)
  refine QM () ?_
  exists 0,.inr (.inl (iu i1 [1:?_]));rw[es];exact k H (ia.refl _)
 ·have aa:v2≠ .non:=YL U cn;have ac:YI an=false:=by
   cases an with
   |non=>exact A7 rfl cn
   |_=>rfl
  rw[ac,A2 uc] at k;refine Qw (ue aa) ?_
  exists 0,v2,an,1,U,λH1 s1=>[0:?_];by_cases O:isT an=v_
  ·rw[A3 O] at k;rw[O];refine iP ?_
   exists 0,.inr (.inl (iu (i1.mono s1.tk) [1:0:?_]));rw[es];by_cases ch:u="has"
   ·rw[A3 ch] at k;refine QM (A6 ch) ?_
    exists 0,two,λt1 h1=>?_;have s2:=qf h1 (.tup [.str "yes",.str "no"])
    exists an,t1,["yes","no"],(U.mono s1.tk).mono s2.tk,1,.inr (SqT.of qg),?_,?_,?_,k _ (s1.trans s2)
    ·intro z hz;simp![uG,vi,uS] at hz;rcases hz with rfl|rfl<;>decide+kernel
    ·have hg:=yj O;cases an with
     |non=>rfl
     |str z=>rfl
     |tup xs=>
      show puL xs=v_;simp![iK,uF] at hg;exact goodL_pu hg.2
     |_=>simp[iK] at hg
    ·have:=xr O;omega
   ·rw[A2 ch] at k;refine Qw (ue ch) ?_
    exists 0,.inr (.inl (iu (i1.mono s1.tk) [1:?_]))
    exists 0;rw[es];by_cases ct:u="thing"
    ·rw[A6 ct] at k⊢;refine lC ?_;exact k _ s1
    ·rw[ue ct] at k⊢;refine iP ?_;exact⟨0,v2,an,1,U.mono s1.tk,O,λH2 s2=>k H2 (s1.trans s2)⟩
  ·rw[A2 O] at k;have:isT an=false:=by
    cases h:isT an with
    |true=>exact A7 h O
    |false=>rfl
   rw[this];exact lC (k _ s1)
def Mr:#[C,6,a.jY,a.jW,["self","tree"],(Aaa a.qo)]:=by
 have Qa:=#[Kj,T];have O:=#[Lh,T];have Yv:=#[DN,T,C];exists 9,T.iM,jp
 erw[h,m,[B,p,n,gs,th],v,u,d,an,rfl,M,hO,al,iv,hR,aP,am,k];exists 3,%[#[qI,#[Qv,#[Qh,#[QR,pv 0,T.qt,T.il,Qa]]],%[|YZ],qr],#[qG,(2),jp.nd,#[qF,XO,#[qO,5,pv 0,rfl],qh]],#[qI,#[Qv,#[Qh,#[qv,O,T.mK,#v[pv 2,pv 1]]]],%[|YZ],qr],#[Qd,#[jk,uW,vz,vA,Yz,#[qO,5,pv 0,rfl],#v[#[qB,#v[pv 2,pv 1]]]]],#[Jk,10,pv 0,qh,oK],#[qI,#[qm,yI,pv 1,qT],%[#[Qm,#[qB,#v[ql,ql]]]|Oh],qr],#[Xh,#[qF,XO,#[qF,XO,#[qF,qz,#[qO,5,pv 0,rfl],#[qY,WW,#[qO,5,pv 0,rfl],qh]],qh],qh],pv 1],#[Jk,10,pv 0,qh,oK],#[Qm,qT]|#[Qd,#[QR,pv 0,T.qt,T.iQ,Yv]]]
 simp only at al;subst al;have two:(2:Nat)<=sizeLine:=by decide
 have hw:QK (.tup [.str "asks",.tup [.str u,d]])=true:=by simp[QK]
 erw[hO.ask hw,af,ad,aQ,_];have ag:=hO.p1;have ao:=hO.gs.2.2;have ap:=hO.tr;simp only at af ad aQ ag ao ap;have hM:=M;erw[hM,dx,fs,rv,ru,tv,gv,e,f,ir,ij,ib,hg,gl,it];simp only at f ib gl it;have aR:↑fs<1000:=by have:=f.len;omega
 exists 8,N1,q1
 exists 0,m.x,dx,fs,1,e,f.meth _ (),m,0,M,.inr [_:0],0
 refine Qw (by show(!QK (.tup [.str "asks",.tup [.str u,d]]))=V6;rw[hw];rfl) ?_
 refine q1 _ _ ?_;exists 8,N2,q2
 exists 0,m.x,_,dx,fs,0,e,T.qt,T.qM,f.there,.inr (.inl (xT (i:=1) it (qE (j:=1) rfl) λq hq=>?_));refine q2 _ _ ?_;exists 8,N3,q3
 exists 0,0,q,v,u,d,an,1,hq,iv,λH1 s1=>[0:?_];rw[am];refine iP ?_;refine q3 _ _ ?_;exists 8,N4,q4;have ha:=Au am
 exists 0,m.x,_,dx,fs,0,s1 _ _ e,T.qt,T.YG,f.given,.inl [1:_:SqL.of (s1 _ _ hg)],0,0,two,λt1 h1=>?_;have s2:=qf h1 (.tup [q,v]);have ip:Is (upd H1 t1 (.tup [q,v])) (.tup [.tup [.str u,d],an]) (.ref t1):=Is.new (ds:= [.tup [.str u,d],an]) ⟨_,0,hq.mono s1.tk,_,0,iv.mono s1.tk,1⟩ h1;have S2:=s1.trans s2;generalize upd H1 t1 (.tup [q,v])=H2 at s2 ip S2⊢;have bf:↑gv=↑gs:=↑gl;have aq:=S2 _ _ hg
 exists m.dg,gv,0,1,aq,X2 ()
 have t3:Tk H2 (upd H2 m.dg (.lst (gv++ [.ref t1]))):=Tk.updL aq;have aS:m.x≠m.dg:=λz=>by rw[<-z,e] at hg;cases hg
 have au:m.db≠m.dg:=λz=>by
  erw[ib,ff,e2,_];rw[z,hg] at e2;cases e2
 have e3:(upd H2 m.dg (.lst (gv++ [.ref t1]))) m.x=u_ (.ins a.qo dx fs):=by rw[qj aS];exact S2 _ _ e
 have T3:Tk H (upd H2 m.dg (.lst (gv++ [.ref t1]))):=S2.tk.trans t3;have aw:=(ib.same S2).move t3 (qj au);have ax:L2.IsL (upd H2 m.dg (.lst (gv++ [.ref t1]))) (gs++ [.tup [.tup [.str u,d],an]]) (gv++ [.ref t1]):=(gl.mono T3).append (IsL.one (ip.mono t3));have ay:(upd H2 m.dg (.lst (gv++ [.ref t1]))) m.dg=u_ (.lst (gv++ [.ref t1])):=qg;have aA:Mv m H (upd H2 m.dg (.lst (gv++ [.ref t1]))):=⟨λb o h _ _ n3=>by rw[qj n3];exact S2 b o h,T3⟩
 generalize upd H2 m.dg (.lst (gv++ [.ref t1]))=H3 at t3 e3 T3 aw ax ay aA⊢;refine q4 _ _ ?_;exists 8,N5,q5
 exists 0,m.x,_,dx,fs,0,e3,T.qt,T.ye,f.done,(n:Int),(1),1,1,dx,fs,e3,aR;erw[yr (r:=⟨B,p,n+1,gs++ [.tup [.tup [.str u,d],an]],.tup [.str "asks",.tup [.str u,d]]⟩) e3 (f.set_done (k:=n+1)) (ir.mono T3) (ij.mono T3) aw ay ax (it.mono T3),M4,aB];have aa:=aA.trans aB;have aC:=iv.mono aa.tk;refine q5 _ _ ?_;show nh _ _ _ _ (upd H3 m.x (.ins a.qo dx (iF "done" (.int ((n+1:Nat):Int)) fs)));generalize upd H3 m.x (.ins a.qo dx (iF "done" (.int ((n+1:Nat):Int)) fs))=H4 at M4 aB aa aC⊢;erw[M4,Z,U,bg,bh,bo,bp,e4,f4,ah,aD,ac,aE,ak,aF];simp only at f4 ac ak aF;have ae:↑U<1000:=by have:=f4.len;omega
 exists 8,N6,q6
 exists 0,1,0;by_cases cn:an= .non
 ·subst cn;cases(show v= .non from iv)
  refine QM () ?_
  exists two,λl hl=>?_;have s5:=qf hl (.tup [.str "fault",.str "lack"])
  exists 0,m.x,_,Z,U,1,s5 _ _ e4,T.qt,T.qM,ae;erw[yr (r:=⟨B,p,n+1,gs++ [.tup [.tup [.str u,d],.non]],flt "lack"⟩) (s5 _ _ e4) (f4.set_there (u:= .ref l)) (ah.mono s5.tk) (aD.mono s5.tk) (ac.same s5) (s5 _ _ aE) (ak.mono s5.tk) (Is.new (ds:= [.str "fault",.str "lack"]) ⟨_,0,[1:yL ()],_,0,[1:yL ()],1⟩ hl),m1,m2]
  exact k _ (aa.trans ((Mv.of s5).trans m2)) m1
 ·have hT:isT an=true:=ha.resolve_left cn;have aT:v≠ .non:=YL iv cn;have aU:YI an=false:=by
   cases an with
   |non=>exact A7 rfl cn
   |_=>rfl
  refine Qw (ue aT) ?_;refine q6 _ _ ?_;exists 8,N7,q7;erw[Abm (hR.ok _ (KC ag af)) ad,z0,z1,aG,aV];have aW:b0 (Jd m.rs p).2=z0:=by rw[aG];rfl
  erw[ac.put aV aC,kvs,aH,aX,t5];have aY:atI (m.rs.map rowD) (p-1)=u_ (rowD (Jd m.rs p)):=by
   rw[show p-1=((p.toNat-1:Nat):Int) by omega]
   exact qE (by rw[uM,Dc ag af];rfl)
  have aZ:m.db≠m.x:=Yr.ne e4 ac;have a1:m.dg≠m.db:=au.symm
  exists 0,0,m.x,_,Z,U,0,e4,T.qt,T.Qy,f4.boxes,0,m.x,_,Z,U,0,e4,T.qt,T.y7,f4.rows,0,m.x,_,Z,U,0,e4,T.qt,T.Qq,f4.place,_,0,1;refine xT (d:=rowD (Jd m.rs p)) ah aY λq5 a3=>?_;refine .inr (.inl (xT (i:=1) a3 (qE (j:=1) rfl) λq6 aI=>?_));rw[aG] at aI;refine .inr (.inl (xT (i:=0) (d:= .str z0) aI (qE (j:=0) rfl) λq7 a4=>?_));erw[a4,rfl,_]
  exists m.db,0,aH;have e5:(upd H4 m.db (.dK kvs)) m.x=u_ (.ins a.qo Z U):=by rwa[qj aZ.symm]
  refine q7 _ _ ?_;exists 8,N8,q8
  exists 0,m.x,_,Z,U,0,e5,T.qt,T.Qq,f4.place,p,(1),1,1,Z,U,e5,ae;obtain⟨M6,a5⟩:=yr (r:=⟨AG B z0 an,p+1,n+1,gs++ [.tup [.tup [.str u,d],an]],.tup [.str "asks",.tup [.str u,d]]⟩) e5 (f4.set_place (q:=p+1)) (ah.mono t5) (aD.mono t5) aX (by rwa[qj a1]) (ak.mono t5) (aF.mono t5)
  have aJ:=aa.trans (Mv.trans ⟨λb o h _ a2 _=>by rwa[qj a2],t5⟩ a5)
  erw[M6,a6,aK,bq,bt,bu,bv,e6,f6,a7,a8,aL,a9,aM,ba];simp only at f6 aL aM ba;have aN:↑aK<1000:=by have:=f6.len;omega
  refine q8 _ _ ?_;exists 8,N9,q9
  exists 0,m.x,_,a6,aK,1,e6,T.qt,T.qM,aN;erw[yr (r:=⟨AG B z0 an,p+1,n+1,gs++ [.tup [.tup [.str u,d],an]],.non⟩) e6 (f6.set_there (u:= .non)) a7 a8 aL a9 aM rfl,M7,bb];have aO:=aJ.trans bb;erw[id M7,bc,bd,bw,bx,bA,bB,e7,f7,r7];refine q9 _ _ ?_
  exists 5
  refine⟨0,m.x,bc,bd,1,e7,f7.meth _ (),m,0,M7,1,KB ap hT,aP,hR,by show 1<=p+1;omega,by show p+1<=_;omega,by show n+1<=300;omega,λH8 be M8=>k H8 (aO.trans be) ?_⟩
  unfold mo;rw[aU,A2 uc];simp only;rw[aW];exact M8
nonrec def mt (H:Hp)(p:o3):Prop:=∃x:Int,H p=u_ (.lst [.int x])/\0<=x
def mt.same (h:mt H p)(s:ia H H'):mt H' p:=by
 erw[h,x,e,r];exact[x:s _ _ e:r]
def mt.free {l:o3}(h:mt H p)(n:H l=U_):p≠l:=by
 erw[h,x,e,r];exact qk e n
def mt.tk (h:mt H p)(h':mt H' p)(k:jA p H H'):Tk H H':=by
 erw[h,x,e,_];erw[h',U,O,_];exact k.tk e O
inductive No:Sp
 |mk (p:Addr)(many:Int)(_:vs= [.ref p,.int many])(_:mt H p)(_:0<many)(_:many<1073741824)(_:∀(d:Int)(H':Hp),0<=d->d<many->mt H' p->jA p H H'->Q (.int d) H')
inductive Nv:Sp
 |mk (c t:Int)(_:vs= [.int c,.int t])(_:0<=t)(_:t<1000)(_:∀(p:Addr)(H':Hp),H p=U_->ia H H'->mt H' p->Q (.ref p) H')
def Jp:#[T,1,a.WE,a.WM,["pot","many"],No]:=by
 exists 9,T.ie,wH
 erw[h,p,many,rfl,[x,O,Z],hm,U,k];exists 3,%[#[qG,(2),wH.nd,#[qY,xp,#[qF,Yj,pv 0,qh],pv 1]],#[kG,#[qY,sN,#[qF,Yj,pv 0,qh],pv 1],#[Aat,7,pv 0,qh,IS,_]]|#[qp,pv 2]]
 exists 0,p,_,_,0,1,SqL.of O,1,0,_,0,1,hm
 exists 0,p,_,_,0,1,SqL.of O,1,0,_,0,1,[hm:U],0,p,_,_,0,1,O,1
 exists 0;refine k _ _ (Us _ ()) (vY _ hm) [x/many:qg:Int.ediv_nonneg Z ()] (jA.upd _ _ _)
def OC:#[T,1,a.f_law_pot,a.d_law_pot,["cell","salt"],Nv]:=by
 exists 9,T.mY,Yu
 erw[h,c,t,rfl,h0,h1,k];exists 3,%[#[qI,#[qm,Acp,#[qx,BI,T.z_abs,boot_abs,#v[pv 0]],#[qY,AaA,qh,qh]],%[|#[qp,#[Q9,#v[#[qx,BI,T.z_abs,boot_abs,#v[pv 0]]]]]],qr],#[qG,(2),Yu.nd,#[qY,xp,#[qY,ow,#[qY,yi,#[qY,yi,#[qY,xp,pv 0,qh],#[qY,ow,qh,pv 1]],qh],qh],qh]],#[qG,(3),Yu.nd,qh],#[Je,#[YW,#v[qh]],#[qN,(4),Yu.nd],%[#[qG,(2),Yu.nd,#[qY,xp,#[qY,yi,#[qY,yi,#[qY,ow,pv 2,pv 2],#[qY,ow,qh,pv 4]],qh],qh]]|#[qG,(3),Yu.nd,#[qY,yi,#[qY,ow,pv 3,qh],pv 2]]]]|#[qp,#[Q9,#v[pv 3]]]]
 exists 0,0,_,0,1,[():():()],_,0,1,0
 refine lL (λ_=>?_) (λ_=>?_)
 ·exists 0,0,(sml rfl),λp O=>?_;refine k p _ O (qf O _) [_:qg:?_];split<;>omega
 ·exists 0,_,0,1,(by show(0:Int)<2147483647;decide),0,_,0,1,(.inl [():()]),_,0,1,_,0,1,_,0,1,(.inr [():()]),_,0,1,(by show(0:Int)<2147483647;decide),(9),1,(),()
  let J1_:Nat->L2.St->Hp->Prop:=λi σ H'=>E3 λ(x:Int) (b:Int) (kv:om V)=>A5 (σ= [u_ (.int c),u_ (.int t),u_ (.int x),u_ (.int b),kv]) (0<=x) (x<2147483647) (0<=b) (H'=H)
  refine XR (n:=9) J1_ ⟨_,_,U_,1,Us _ (),vY _ (),(),1⟩ ?_ ?_
  ·rintro i σ H' hi ⟨x,b,kv,rfl,Z,aa,hb,rfl⟩;have U:AbQ x x:= .inl [():()]
   exists 0,0,_,0,1,U,0,_,0,1,(.inl [():()]),_,0,1,_,0,1,_,0,1,(by show(0:Int)<2147483629;decide),0,_,0,1,(.inr [():()]),0,_,0,1
   have q0:0<=(x*x+40692*(0+(i:Int))+3)%2147483629:=Us _ ()
   have q1:(x*x+40692*(0+(i:Int))+3)%2147483629<2147483629:=vY _ ()
   exact⟨_,_,0,q0,Int.lt_trans q1 (),Int.add_nonneg (Int.mul_nonneg hb ()) q0,1⟩
  ·rintro σ H' ⟨x,b,kv,rfl,Z,aa,hb,rfl⟩;exact[0:(sml rfl):λp O=>k p _ O (qf O _) [_:qg:hb]]
nonrec def Nm4 (zs:oj Str):Prop:=1<=↑zs/\↑zs<=20/\∀z∈zs,nm z=v_/\↑z<=4
nonrec def Wd (n:Nat)(z:Str):Prop:=j9 z=v_/\↑z<=n
def jA.of (s:ia H H'):jA p H H':=λb o e _=>s b o e
def mt.ne_strs {l:o3}(h:mt H p)(e:H l=u_ (.lst (zs.map V.str))):l≠p:=λz=>by
 erw[h,x,O,_];rw[<-z,e] at O;cases zs with
 |nil=>cases O
 |cons a r=>simp at O
inductive Nj:Sp
 |mk (p L:Addr)(zs:List Str)(_:vs= [.ref p,.ref L])(_:mt H p)(_:H L=u_ (.lst (zs.map V.str)))(_:Nm4 zs)(_:∀(z:Str)(H':Hp),Wd 4 z->mt H' p->jA p H H'->Q (.str z) H')
inductive NE:Sp
 |mk (p L:Addr)(zs:List Str)(many k:Nat)(_:vs= [.ref p,.ref L,.int (many:Int),.int (k:Int)])(_:mt H p)(_:H L=u_ (.lst (zs.map V.str)))(_:Nm4 zs)(_:1<=many)(_:many<=12)(_:k<=12)(_:∀(z:Str)(H':Hp),Wd 20 z->mt H' p->jA p H H'->Q (.str z) H')
nonrec def FIV:oj Str:= ["","x","b1 g","yes","c/d"]
def Abc:∀z∈FIV,Wd 4 z:=by
 have:∀z∈FIV,j9 z=v_/\↑z<=4:=by decide+kernel
 exact this
def DV (h:nm z=v_):j9 z=true:=DQ (Mw h)
def AbU (h:Nm4 zs):∀z∈zs++FIV,Wd 4 z:=λz O=>by
 rcases Ab.mp O with h1|h1
 ·exact[DV (h.2.2 z h1).1:(h.2.2 z h1).2]
 ·exact Abc z h1
def Wd.cat {m k:Nat}{y:Str}(h:Wd n x)(h':Wd m y)(e:n+m<=k):Wd k (x++y):=⟨DR h.1 h'.1,by rw[Ar];have:=h.2;have:=h'.2;omega⟩
def Eg:∀{l:oj Str},(∀z∈l,j9 z=v_)->Wd ((l.map (·.length)).sum+↑l) (Vf " " l)
 | [],_=>[1:uP _]
 | [z],h=>⟨h z (by simp),by show ↑z<=_;simp⟩
 |z::y::r,h=>by
  have O:=Eg (l:=y::r) λx U=>h x (ui _ U);have Z:=h z (by simp)
  have e:=L2.JO z y r;exists ?_,?_
  ·show(Vf " " (z::y::r)).cps.toList.all QC=v_;rw[e,UP,vv,show z.cps.toList.all QC=v_ from Z,show(Vf " " (y::r)).cps.toList.all QC=v_ from O.1]
   decide
  ·rw[sT,e,uB,uu,<-sT,<-sT];have h1:=O.2;simp![uC,Uv,uu] at h1⊢;omega
nonrec def WL:oj Str:= ["ask","ask","ask","has","names","text","text","copy","put","put","join","first","first","rest","size","cut","glue","like","none","rowed","go","say","fault","self"]
noncomputable abbrev WTX:Str:="ask ask ask has names text text copy put put join first first rest size cut glue like none rowed"
def Sv:spl ((WTX++(" go say fault self":Str)).length+1) (WTX++(" go say fault self":Str))=WL:=by decide+kernel
def AbT:∀z∈WL,Wd 5 z:=by
 have:∀z∈WL,j9 z=v_/\↑z<=5:=by decide+kernel
 exact this
def Abt:∀c∈("abcdh":Str).cps.toList,QC c=true:=by decide+kernel
def MV {d:Int}(h0:0<=d)(h1:d<5):∃c,atI ("abcdh":Str).cps.toList d=u_ c/\Wd 1 ⟨#[c]⟩:=by
 obtain⟨c,O⟩:=jJ (xs:=("abcdh":Str).cps.toList) h0 (by show d<5;exact h1)
 exists c,O,?_,uq _;show [c].all QC=v_;rw[vv,Abt c (Xk O)]
 rfl
def AaP:∀k:Nat,k<13->j9 (Vi (k:Int):Str)=v_/\↑(Vi (k:Int):Str)<=2:=by decide+kernel
def sO:#[T,2,a.kc,a.WD,["pot","names"],Nj]:=by
 have qR:=#[Jp,T];exists 9,T.iB,Wf
 erw[h,p,L,zs,rfl,hP,hL,U,k];have hs:=uI;have aa:=U.1;have ac:=U.2.1;exists 3,%[#[qG,(2),Wf.nd,#[qY,AW,pv 1,#[Q9,#v[ql,ql,ql,ql,ql]]]]|#[qp,#[qF,Yj,pv 2,#[qv,qR,T.ie,#v[pv 0,#[qx,qD,T.Q0,uL,#v[pv 2]]]]]]]
 exists 0,(sml rfl),λq hq=>?_;have s1:ia H (upd H q (.lst [.str "",.str "x",.str "b1 g",.str "yes",.str "c/d"])):=qf hq _
 exists L,q,_,0,1,s1 _ _ hL,qg,(by rw[ud];show _+5<=V9;omega),λl hl=>?_
 have s2:=s1.trans (qf hl (.lst (zs.map V.str++ [.str "",.str "x",.str "b1 g",.str "yes",.str "c/d"])));have O:(upd (upd H q (.lst [.str "",.str "x",.str "b1 g",.str "yes",.str "c/d"])) l (.lst (zs.map V.str++ [.str "",.str "x",.str "b1 g",.str "yes",.str "c/d"]))) l=u_ (.lst ((zs++FIV).map V.str)):=by rw[qg,uD];rfl
 generalize upd (upd H q (.lst [.str "",.str "x",.str "b1 g",.str "yes",.str "c/d"])) l (.lst (zs.map V.str++ [.str "",.str "x",.str "b1 g",.str "yes",.str "c/d"]))=H2 at s2 O⊢;have P2:=hP.same s2;have l5:↑((zs++FIV).map V.str)=↑zs+5:=by rw[ud,uB];rfl
 exists 5
 refine⟨0,0,0,l,0,.inl (SqL.of O),p,0,P2,by rw[l5];omega,by rw[l5];omega,λd H' d0 d1 P3 K3=>?_⟩
 have Z:=K3 _ _ O (P2.ne_strs O);erw[jJ (xs:=(zs++FIV).map V.str) d0 d1,v,hv];erw[Ac.mp (Xk hv),z,hz,rfl];exact⟨l,_,d,0,1,SqL.of Z,hv,k z H' (AbU U z hz) P3 ((jA.of s2).trans K3)⟩
def Ac4 {c:Nat}:∀{l:oj Str},(∀z∈l,↑z<=c)->(l.map (·.length)).sum<=↑l*c
 | [],_=>by simp
 |z::r,h=>by
  have:=Ac4 λy O=>h y (ui _ O);have:=h z uj;simp![uC,Uv,uu,RQ,Ro];omega
def LD {K:o0}(hl:↑l<=3)(O:Wd 5 z)(h:∀z∈l,Wd 2 z)(k:∀y H',Wd 20 y->ia H H'->Q (.str y) H'):↑((z::l).map V.str)<=V9/\∀p,H p=U_->Aao K (.str " ") [.ref p] (upd H p (.lst ((z::l).map V.str))) Q:=by
 have hs:=uI;have h1:=Ac4 (c:=2) λz O=>(h z O).2;have h2:=O.2;refine⟨by rw[ud,uu];omega,λp Z=>⟨" ",p,z::l,1,1,SqL.of qg,?_,?_⟩⟩
 ·have e:(" ":Str).length=1:=rfl;rw[e];simp![uC,Uv,uu];omega
 ·have:=Eg (l:=z::l) λy U=>by
   rcases A9.mp U with rfl|U
   ·exact O.1
   ·exact(h y U).1
  refine k _ _ [this.1:?_] (qf Z _);have h3:=this.2;simp![uC,Uv,uu] at h3;omega
def OJ:#[T,3,a.kC,a.W6,["pot","names","many","k"],NE]:=by
 have qR:=#[Jp,T];have QY:=#[sO,T];exists 9,T.mR,yq
 erw[h,p,L,zs,many,i,rfl,hP,hL,hN,ay,aA,hi,k];exists 3,%[#[qG,(4),yq.nd,ql],#[qG,(5),yq.nd,#[qF,Yj,#[jk,uX,Ug,Uh,Bg,#[qY,Qo,pv 4,ql],#v[ql]],#[qv,qR,T.ie,#v[pv 0,qh]]]],#[kG,#[xN,["j","pot"],(1),[0],Ea (qi J4) ["pot","names","many","k","words","word","one","two","three","at"],#[YW,#v[qh]],(λ_ _ _ _ _ _=>#[qN,(0),(show Vl (["j","pot"]:oj Str) by decide+kernel)]),(λ_ _ _ _ _ _=>#[qF,Bp,ql,#[qv,qR,T.ie,#v[pv 1,qh]]])],#[On,6,rfl,Qe #[qN,(6),yq.nd] (Qe #[qN,(7),yq.nd] (Qe #[qN,(8),yq.nd] YH)),_,_]],#[qG,(9),yq.nd,#[qW,Y9,T.Zi,UB,#v[#[qx,#[E8,1,rfl],T.z_min,boot_min,#v[pv 2,#[qY,yi,#[qY,yi,pv 3,qh],#[qv,qR,T.ie,#v[pv 0,pv 2]]]]]]]],#[qI,#[qm,Qr,pv 5,ql],%[|#[qp,#[qY,Qo,#[qY,Qo,#[qY,Qo,ql,pv 6],ql],#[qv,QY,T.iB,#v[pv 0,pv 1]]]]],qr],#[qI,#[qm,8,QF,pv 5,#[Q9,#v[ql,ql]],#[w]],%[|#[qp,#[qY,Qo,#[qY,Qo,pv 5,ql],pv 6]]],qr],#[qI,#[qm,Qr,pv 5,ql],%[|#[qp,pv 5]],qr],#[qI,#[qm,Qr,pv 5,ql],%[|#[qp,#[qY,Qo,ql,pv 9]]],qr],#[qI,#[qm,8,QF,pv 5,#[Q9,#v[ql,ql]],#[w]],%[|#[qp,#[jk,uX,vW,vX,KO,ql,#v[#[Q9,#v[pv 5,pv 6,pv 9]]]]]],qr],#[qI,#[qm,Qr,pv 5,ql],%[|#[qp,#[jk,uX,vW,vX,KO,ql,#v[#[Q9,#v[pv 5,pv 6,pv 7,pv 9]]]]]],qr],#[qI,#[qm,8,QF,pv 5,#[Q9,#v[ql,ql]],#[w]],%[|#[qp,#[jk,uX,vW,vX,KO,ql,#v[#[Q9,#v[pv 5,pv 6,pv 7,pv 8]]]]]],qr]|#[qp,#[jk,uX,vW,vX,KO,ql,#v[#[Q9,#v[pv 5,pv 6,pv 7]]]]]]
 exists 0,_,0,1,(),1,0,1,(),λq hq=>?_
 rw[show spl _ _=WL from Sv]
 have s1:ia H (upd H q (.lst (WL.map V.str))):=qf hq _;have eq:(upd H q (.lst (WL.map V.str))) q=u_ (.lst (WL.map V.str)):=qg;generalize upd H q (.lst (WL.map V.str))=H1 at s1 eq⊢;have P1:=hP.same s1
 exists 0,p,(24),1,P1,(),(),λd H2 d0 d1 P2 K2=>?_
 obtain⟨v,hv⟩:=jJ (xs:=WL.map V.str) d0 (by show d<24;exact d1)
 erw[Ac.mp (Xk hv),z,hz,rfl]
 exists q,_,d,0,1,SqL.of (K2 _ _ eq (P1.ne_strs eq)),hv;have Z:=AbT z hz;have ah:jA p H H2:=(jA.of s1).trans K2;clear K2 hv hz eq P1 s1 hq
 exists (3),1,(),(),λD hD=>?_
 refine zj (lo:=0) (tl:= [u_ (.ref p)]) (λi ys H'=>∃bs:oj Str,ys=bs.map V.str/\↑bs=i/\(∀b∈bs,Wd 1 b)/\mt H' p/\(∀b o,H2 b=u_ o->b≠p->H' b=u_ o)) (yL ()) ⟨[],1,1,λb hb=>by simp at hb,P2.same (qf hD _),λb o e _=>qf hD _ _ _ e⟩ ?_ ?_
 ·rintro j ys H' hj ⟨bs,rfl,aa,U,P',K'⟩ ac O R hR
  exists 0,p,(5),1,P',(),(),λd3 H4 e0 e1 P4 K4=>?_
  erw[MV e0 e1,c,hc,am]
  exists "abcdh",d3,c,1,1,(),hc
  have nD:D≠p:=(P2.free hD).symm;refine hR _ H4 (K4 _ _ ac nD) ⟨bs++ [⟨#[c]⟩],by rw[uD];rfl,by rw[uB,aa];rfl,λb hb=>?_,?_,λb o e np=>?_⟩
  ·rcases Ab.mp hb with h|h
   ·exact U b h
   ·rw[vm] at h;subst h;exact am
  ·erw[P4,x,e2,h2];exact⟨x,by rwa[qj nD.symm],h2⟩
  ·rw[qj (qk e hD)];exact K4 _ _ (K' b o e np) np
 ·rintro ys H' ⟨bs,rfl,aa,U,P',K'⟩ ac;obtain⟨x1,x2,x3,rfl⟩:∃x1 x2 x3,bs= [x1,x2,x3]:=by
   match bs,aa with
   | [x1,x2,x3],_=>exact⟨x1,x2,x3,1⟩
  have h1:Wd 2 x1:=⟨(U x1 (by simp)).1,by have:=(U x1 (by simp)).2;omega⟩
  have h2:Wd 2 x2:=⟨(U x2 (by simp)).1,by have:=(U x2 (by simp)).2;omega⟩
  have h3:Wd 2 x3:=⟨(U x3 (by simp)).1,by have:=(U x3 (by simp)).2;omega⟩
  have KD:jA p H H':=λb o e np=>K' b o (ah b o e np) np
  exists D,0,SqL.of ac,1,_,0,_,0,_,0,1;clear K' ah P2 U aa ac
  exists 0,0,_,0,1,0,0,p,many,1,P',(),(),λd5 H5 f0 f1 P5 K5=>⟨_,0,1,_,0,?_⟩
  obtain⟨j,ej,ao,ap⟩:∃j:Int,j=(if(i:Int)+5+d5<(many:Int) then(i:Int)+5+d5 else(many:Int))/\1<=j/\j<=12:=⟨0,by split<;>omega,by split<;>omega⟩
  rw[<-ej];obtain⟨jn,rfl⟩:∃n:Nat,j=(n:Int):=[j.toNat:()]
  have ak:=AaP jn ()
  have h4:Wd 2 (Vi ((jn:Nat):Int):Str):=ak;have ae:((jn:Nat):Int).natAbs.log2<1920:=by have:=V2 ((jn:Nat):Int).natAbs;omega
  exists 0,ae;have af:jA p H H5:=KD.trans K5;have aq:=af _ _ hL (hP.ne_strs hL);have fin:∀(y:Str) (H':Hp),Wd 20 y->ia H5 H'->Q (.str y) H':=λy H' O s'=>k y H' O (P5.same s') (af.trans (jA.of s'));have two:(2:Nat)<=sizeLine:=by decide
  have bl:Wd 1 " ":=[():uq _]
  have fz:∀{n m:Nat}{x y:Str},Wd n x->Wd m y->n+m<=100->↑x+↑y<=sizeLine:=λhx O h=>fits (by have:=hx.2;have:=O.2;omega)
  have tx:Wd 5 "text ":=[():uq _]
  have go:Wd 3 "go ":=[():uq _]
  clear ak ao ap ae ej
  exists 0,1,0,lL (λ_=>?_) (λ_=>?_)
  ·have w1:=tx.cat h1 (k:=7) ()
   have w2:=w1.cat bl (k:=8) ()
   exists 0,_,0,1,fz tx h1 (),_,0,1,fz w1 bl (),0,0,p,L,zs,1,P5,aq,hN,λy H6 O P6 K6=>?_
   exact⟨_,0,1,fz w2 O (),k _ H6 (w2.cat O ()) P6 (af.trans K6)⟩
  exists 0,two,λl1 au=>⟨l1,0,.inl (SqL.of qg),1,1,0,?_⟩;have ad:=qf au (.lst ([.str "self",.str "say"]:oj V));refine lL (λ_=>?_) (λ_=>?_)
  ·have w1:=Z.cat bl (k:=6) ()
   exact⟨0,_,0,1,fz Z bl (),0,_,0,1,fz w1 h1 (),fin _ _ (w1.cat h1 ()) ad⟩
  exists 0,1,0,lL (λ_=>?_) (λ_=>?_)
  ·exact⟨0,fin _ _ ⟨Z.1,by have:=Z.2;omega⟩ ad⟩
  exists 0,1,0,lL (λ_=>?_) (λ_=>?_)
  ·exact⟨0,_,0,1,fz go h4 (),fin _ _ (go.cat h4 ()) ad⟩
  exists 0,two,λl2 aw=>⟨l2,0,.inl (SqL.of qg),1,1,0,?_⟩;have ag:=ad.trans (qf aw (.lst ([.str "none",.str "rowed"]:oj V)));refine lL (λ_=>?_) (λ_=>?_)
  ·exists 1,0,0,0;exact LD (l:= [x1,Vi ((jn:Nat):Int)]) (by simp) Z (λy O=>by simp at O;rcases O with rfl|rfl<;>assumption) λy H' O s'=>fin y H' O (ag.trans s')
  exists 0,1,0,lL (λ_=>?_) (λ_=>?_)
  ·exists 1,0,0,0,0;exact LD (l:= [x1,x2,Vi ((jn:Nat):Int)]) (by simp) Z (λy O=>by simp at O;rcases O with rfl|rfl|rfl<;>assumption) λy H' O s'=>fin y H' O (ag.trans s')
  exists 0,two,λl3 ax=>⟨l3,0,.inl (SqL.of qg),1,1,0,?_⟩;have al:=ag.trans (qf ax (.lst ([.str "cut",.str "glue"]:oj V)));refine lL (λ_=>?_) (λ_=>?_)
  ·exists 1,0,0,0,0;exact LD (l:= [x1,x2,x3]) (by simp) Z (λy O=>by simp at O;rcases O with rfl|rfl|rfl<;>assumption) λy H' O s'=>fin y H' O (al.trans s')
  ·exists 1,0,0,0;exact LD (l:= [x1,x2]) (by simp) Z (λy O=>by simp at O;rcases O with rfl|rfl<;>assumption) λy H' O s'=>fin y H' O (al.trans s')
nonrec def PM (d:D):Prop:=isT d=v_/\lw d=v_/\sz d<=300
inductive CT:Sp
 |mk (p L:Addr)(zs:List Str)(_:vs= [.ref p,.ref L])(_:mt H p)(_:H L=u_ (.lst (zs.map V.str)))(_:Nm4 zs)(_:∀(v:V)(d:D)(H':Hp),PM d->Is H' d v->mt H' p->jA p H H'->Q v H')
def IsL.ofStrz {H:Hp}:∀{l:oj Str},(∀z∈l,↑z<=1000)->L2.IsL H (l.map D.str) (l.map V.str)
 | [],_=>rfl
 |z::r,h=>⟨_,0,[1:yL (h z uj)],IsL.ofStrz λy O=>h y (ui _ O)⟩
def AC {n:Nat}:∀{l:oj Str},(∀z∈l,↑z<=n)->szL (l.map D.str)<=↑l*(n+1)
 | [],_=>by simp[szL]
 |z::r,h=>by
  have:=AC (n:=n) λy O=>h y (ui (a:=y) z O);have:=h z uj;simp![uC,szL,sz,uu,RQ,Ro];omega
def D6:∀{l:oj Str},(∀z∈l,j9 z=v_)->lwL (l.map D.str)=v_
 | [],_=>rfl
 |z::r,h=>by
  rw[uC,lwL,D6 λy O=>h y (ui _ O),vU];exact h z uj
def EQ:∀l:oj Str,dpL (l.map D.str)<=1
 | []=>by simp[dpL]
 |z::r=>by have:=EQ r;simp![uC,dpL,dp];omega
def oO:∀{l:oj Str},(∀z∈l,Wd 300 z)->goodL (l.map D.str)=v_
 | [],_=>rfl
 |z::r,h=>by
  rw[uC,goodL,oO λy O=>h y (ui _ O),vU];show QB z=v_;unfold QB;have:=h z uj;rw[A6 this.2];exact this.1
def SD (h:Wd 20 z):PM (.str z):=⟨El h.1 (by have:=h.2;omega),h.1,by simp![sz];have:=h.2;omega⟩
def nz (Z:↑l<=14)(h:∀z∈l,Wd 20 z):PM (.tup (l.map D.str)):=by
 have h1:=AC λz O=>(h z O).2;have h2:=EQ l;have h3:=oO λz O=>(⟨(h z O).1,by have:=(h z O).2;omega⟩:Wd 300 z)
 have e:sz (.tup (l.map D.str))<=300:=by simp![sz];omega
 exists ?_,by simpa only [lw] using D6 λz O=>(h z O).1,e
 have U:dp (.tup (l.map D.str))<=12:=by simp![dp];omega
 unfold isT;rw[A6 (show sz (.tup (l.map D.str))<=600 by omega),A6 U]
 simp![iK];rw[h3,ud,A6 (show ↑l<=40 by omega)]
 rfl
def wJ {t:o3}(h:∀z∈l,Wd 20 z)(O:H t=U_):Is (upd H t (.tup (l.map V.str))) (.tup (l.map D.str)) (.ref t):=
 Is.new (IsL.ofStrz λz U=>by have:=(h z U).2;omega) O
nonrec def MKL (z:Str):oj Str:= ["row h","text b "++z,"ask c b","text a text d ","join a c","put h a","text a ask e d","put h a","text a say e","put h a","say h"]
def My (h:Wd 4 z):∀y∈MKL z,Wd 20 y:=by
 have O:∀y∈(["row h","ask c b","text a text d ","join a c","put h a","text a ask e d","put h a","text a say e","put h a","say h"]:oj Str),j9 y=v_/\↑y<=20:=by decide+kernel
 intro y U;rcases A9.mp U with rfl|U
 ·exact O _ (by simp)
 ·rcases A9.mp U with rfl|U
  ·exact Wd.cat (n:=7) (m:=4) [():uq _] h ()
  ·exact O y (ui _ U)
def Le:#[T,2,a.wS,a.wB,["pot","names"],CT]:=by
 have qR:=#[Jp,T];exists 9,T.mI,Y5
 erw[h,p,L,zs,rfl,hP,Z,U,k];have ac:=U.1;have ad:=U.2.1;exists 3,%[#[qG,(2),Y5.nd,#[qF,Yj,pv 1,#[qv,qR,T.ie,#v[pv 0,#[qx,qD,T.Q0,uL,#v[pv 1]]]]]],#[qG,(3),Y5.nd,#[Q9,#v[ql,#[qY,Qo,ql,pv 2],ql,ql,ql,ql]]],#[qG,(3),Y5.nd,#[qY,AW,pv 3,#[Q9,#v[ql,ql,ql,ql,ql]]]]|#[qp,#[qW,qZ,T.QH,vn,#v[pv 3]]]]
 have aa:=hP.ne_strs Z
 exists 5
 refine⟨0,0,0,L,0,.inl (SqL.of Z),p,0,hP,by rw[ud];omega,by rw[ud];omega,λd1 H1 a0 a1 P1 K1=>?_⟩
 erw[jJ (xs:=zs.map V.str) a0 a1,v,hv];erw[Ac.mp (Xk hv),z,hz,rfl];have O:Wd 4 z:=[DV (U.2.2 z hz).1:(U.2.2 z hz).2]
 exists L,_,_,0,1,SqL.of (K1 _ _ Z aa),hv;have e7:("text b ":Str).length=7:=by decide+kernel
 exists 0,_,0,1,fits (by have:=O.2;omega),(sml rfl),λl1 h1=>?_
 have q1:=qf h1 (.lst (((MKL z).take 6).map V.str));have e1:(upd H1 l1 (.lst (((MKL z).take 6).map V.str))) l1=u_ (.lst (((MKL z).take 6).map V.str)):=qg;show nh _ _ _ _ (upd H1 l1 (.lst (((MKL z).take 6).map V.str)));generalize upd H1 l1 (.lst (((MKL z).take 6).map V.str))=H2 at q1 e1⊢
 exists 0,(sml rfl),λl2 h2=>?_;have q2:=qf h2 (.lst (((MKL z).drop 6).map V.str))
 exists l1,l2,_,0,1,q2 _ _ e1,qg,fits (by show 6+5<=16000000;decide),λl3 h3=>?_
 have q3:=q2.trans (qf h3 (.lst ((MKL z).map V.str)))
 exists 0,l3,(MKL z).map V.str,1,.inl [SqL.of qg:λt ht=>?_];have q4:=qf ht (.tup ((MKL z).map V.str));exact k _ _ _ (nz (by show 11<=14;decide) (My O)) (wJ (My O) ht) ((P1.same q1).same (q3.trans q4)) (K1.trans (jA.of (q1.trans (q3.trans q4))))
def DH:#[T,4,a.kE,a.ki,["pot","names"],CT]:=by
 have qR:=#[Jp,T];have QY:=#[sO,T];have O:=#[OJ,T];exists 9,T.ml,jG
 erw[h,p,L,zs,rfl,hP,hL,hN,k];exists 3,%[#[qG,(2),jG.nd,#[qY,yi,qh,#[qv,qR,T.ie,#v[pv 0,qh]]]],#[qG,2,(3),4,jG.nd,rfl,gY rfl,#[qY,yi,pv 2,qh],_,_],#[qG,(4),jG.nd,#[Q9,#v[#[qY,Qo,ql,#[qv,QY,T.iB,#v[pv 0,pv 1]]],#[qY,Qo,ql,#[qv,QY,T.iB,#v[pv 0,pv 1]]],ql]]],#[Qd,#[jk,uW,PySem.F.slot_list_extend,PySem.F.type_list_extend,oE,pv 4,#v[#[xN,["k","pot","names","many"],(1),[0,1,3],Ea (qi J0) ["pot","names","body","many","lines"],#[YW,#v[pv 2]],(λ_ _ _ _ _ _=>#[qN,(0),(show Vl (["k","pot","names","many"]:oj Str) by decide+kernel)]),(λ_ _ _ _ _ _=>#[qv,O,T.mR,#v[pv 1,pv 2,pv 3,pv 0]])]]]]|#[qp,#[qW,qZ,T.QH,vn,#v[#[qY,AW,pv 4,#[Q9,#v[#[qY,Qo,ql,#[qF,Bp,ql,#[qv,qR,T.ie,#v[pv 0,qh]]]]]]]]]]]
 exists 0,p,(8),1,hP,(),(),λd1 H1 a0 a1 P1 K1=>⟨_,0,1,?_⟩
 obtain⟨nb,ah,aG,aH⟩:∃nb:Nat,1+d1=(nb:Int)/\1<=nb/\nb<=8:=⟨(1+d1).toNat,(),(),()⟩
 have aa:=K1 _ _ hL (hP.ne_strs hL)
 try dsimp only
 rw[ah];clear ah a0 a1
 exists 0,_,0,1;have ta:Wd 7 "text a ":=[():uq _]
 have tb:Wd 7 "text b ":=[():uq _]
 have fz:∀{n m:Nat}{x y:Str},Wd n x->Wd m y->n+m<=100->↑x+↑y<=sizeLine:=λhx U h=>fits (by have:=hx.2;have:=U.2;omega)
 exists 0,0,p,L,zs,1,P1,aa,hN,λz1 H5 ak P5 K5=>⟨_,0,1,fz ta ak (),?_⟩
 have ac:=K5 _ _ aa (P1.ne_strs aa)
 exists 0,0,p,L,zs,1,P5,ac,hN,λz2 H6 al P6 K6=>⟨_,0,1,fz tb al (),(sml rfl),λl hl=>?_⟩
 have au:=K6 _ _ ac (P5.ne_strs ac);have am:jA p H H6:=(K1.trans K5).trans K6;have s7:=qf hl (.lst (["text a "++z1,"text b "++z2,"row h"].map V.str));have e7:(upd H6 l (.lst (["text a "++z1,"text b "++z2,"row h"].map V.str))) l=u_ (.lst (["text a "++z1,"text b "++z2,"row h"].map V.str)):=qg;have P7:=P6.same s7;have ad:=s7 _ _ au;have K7:jA p H (upd H6 l (.lst (["text a "++z1,"text b "++z2,"row h"].map V.str))):=am.trans (jA.of s7);have Z:∀y∈(["text a "++z1,"text b "++z2,"row h"]:oj Str),Wd 20 y:=λy U=>by
  simp![uG,uH,uS] at U;rcases U with rfl|rfl|rfl
  ·exact ta.cat ak ()
  ·exact tb.cat al ()
  ·exact[():()]
 show nh _ _ _ _ (upd H6 l (.lst (["text a "++z1,"text b "++z2,"row h"].map V.str)));generalize upd H6 l (.lst (["text a "++z1,"text b "++z2,"row h"].map V.str))=H7 at e7 P7 ad K7⊢;have aw:(["text a "++z1,"text b "++z2,"row h"]:oj Str).length=3:=rfl;generalize (["text a "++z1,"text b "++z2,"row h"]:oj Str)=th at e7 Z aw⊢
 exists 0,.inl [1:_:SqL.of e7]
 exists 0,nb,1,(),(),λD hD=>?_
 have nD:D≠p:=(P7.free hD).symm;have nl:l≠p:=P7.ne_strs e7;refine zj (lo:=0) (n:=nb) (tl:= [u_ (.ref p),u_ (.ref L),u_ (.int ((nb:Int)+4))]) (λi ys H'=>∃rs:oj Str,ys=rs.map V.str/\↑rs=i/\(∀r∈rs,Wd 20 r)/\mt H' p/\(∀b o,H7 b=u_ o->b≠p->H' b=u_ o)) (yL ()) ⟨[],1,1,λb hb=>by simp at hb,P7.same (qf hD _),λb o e _=>qf hD _ _ _ e⟩ ?_ ?_
 ·rintro j ys H' hj ⟨rs,rfl,ao,ae,P',K'⟩ af U R hR;have ax:=K' _ _ ad (P7.ne_strs ad)
  exists 0,0,0,0,p,L,zs,nb+4,j,?_,P',ax,hN,(),(),(),λr H8 ay P8 K8=>?_
  ·rw[show(0:Int)+(j:Int)=(j:Int) by omega,show((nb+4:Nat):Int)=(nb:Int)+4 by omega]
   rfl
  ·refine hR _ H8 (K8 _ _ af nD) ⟨rs++ [r],by rw[uD];rfl,by rw[uB,ao];rfl,λb hb=>?_,?_,λb o e np=>?_⟩
   ·rcases Ab.mp hb with h|h
    ·exact ae b h
    ·rw[vm] at h;subst h;exact ay
   ·erw[P8,x,e2,h2];exact⟨x,by rwa[qj nD.symm],h2⟩
   ·rw[qj (qk e hD)];exact K8 _ _ (K' b o e np) np
 ·rintro ys H' ⟨rs,rfl,ao,ae,P',K'⟩ af;have e8:=K' _ _ e7 nl
  exists l,D,_,0,1,e8,af,fits (by rw[ud,ud];omega)
  have e9:(upd H' l (.lst (th.map V.str++rs.map V.str))) l=u_ (.lst ((th++rs).map V.str)):=by rw[qg,uD]
  have P9:mt (upd H' l (.lst (th.map V.str++rs.map V.str))) p:=by
   erw[P',x,e2,h2];exact⟨x,by rwa[qj nl.symm],h2⟩
  have K9:jA p H (upd H' l (.lst (th.map V.str++rs.map V.str))):=λb o e np=>by
   rw[qj (qk (am b o e np) hl)];exact K' b o (K7 b o e np) np
  generalize upd H' l (.lst (th.map V.str++rs.map V.str))=H9 at e9 P9 K9⊢
  exists 0,0,p,(5),1,P9,(),(),λd9 aI g0 g1 aA ap=>?_
  erw[MV g0 g1,c9,hc,aB];have aC:=ap _ _ e9 nl
  exists "abcdh",d9,c9,1,1,(),hc,_,0,1,(by show("say ":Str).length+1<=V9;decide+kernel),(sml rfl),λq1 aD=>?_
  have aq:=qf aD (.lst [.str ("say "++⟨#[c9]⟩)]);have hw:Wd 20 ("say "++⟨#[c9]⟩:Str):=Wd.cat (n:=4) (m:=1) [():uq _] aB ()
  exists l,q1,_,0,1,aq _ _ aC,qg,fits (by rw[ud,uB];show _+1<=_;omega),λq2 aE=>?_
  have aF:=aq.trans (qf aE (.lst ((th++rs).map V.str++ [.str ("say "++⟨#[c9]⟩)])))
  exists q2,0,.inl [SqL.of qg:λt ht=>?_];have ag:=aF.trans (qf ht (.tup ((th++rs).map V.str++ [.str ("say "++⟨#[c9]⟩)])));have all:∀y∈th++rs++ [("say "++⟨#[c9]⟩:Str)],Wd 20 y:=λy U=>by
   rcases Ab.mp U with U|U
   ·rcases Ab.mp U with U|U
    ·exact Z y U
    ·exact ae y U
   ·cases Aa.mp U;exact hw
  have em:(th++rs).map V.str++ [.str ("say "++⟨#[c9]⟩)]=(th++rs++ [("say "++⟨#[c9]⟩:Str)]).map V.str:=by rw[uD (l₁:=th++rs)];rfl
  rw[em] at ag ht⊢;refine k _ _ _ (nz (l:=th++rs++ [("say "++⟨#[c9]⟩:Str)]) (by simp![uB,v9];omega) all) (wJ all ht) (aA.same ag) ((K9.trans ap).trans (jA.of ag))
def Iw {y:Str}(O:Wd 20 z)(U:Wd 20 y):PM (.tup [.tup [.str z,.tup []],.str y]):=by
 have h1:=O.2;have h2:=U.2;have Z:QB z=true:=by unfold QB;rw[A6 (show ↑z<=300 by omega)];exact O.1
 have g2:QB y=true:=by unfold QB;rw[A6 (show ↑y<=300 by omega)];exact U.1
 have e:sz (.tup [.tup [.str z,.tup []],.str y])<=300:=by simp![sz,szL];omega
 exists ?_,by simp[lw,lwL,O.1,U.1],e
 unfold isT;rw[A6 (show sz (.tup [.tup [.str z,.tup []],.str y])<=600 by omega),A6 (show dp (.tup [.tup [.str z,.tup []],.str y])<=12 by simp![dp,dpL];omega)]
 simp[iK,goodL,Z,g2]
inductive Np:Sp
 |mk (p L:Addr)(zs:List Str)(_:vs= [.ref p,.ref L])(_:mt H p)(_:H L=u_ (.lst (zs.map V.str)))(_:Nm4 zs)(_:∀(v:V)(d:D)(H':Hp),Wp d->Is H' d v->mt H' p->jA p H H'->Q v H')
def SF {k:Str}{d:D}(O:k="leaf"∨k="rule")(h:PM d):Wp (.tup [.str k,d]):=IA O h.1 h.2.1 h.2.2
def CN {k:Str}{d:D}(O:k="leaf"∨k="rule")(h:PM d)(Z:Is H d v)(q:∀t H',ia H H'->Is H' (.tup [.str k,d]) (.ref t)->Wp (.tup [.str k,d])->Q (.ref t) H'): [V.str k,v].length<=V9/\∀t,H t=U_->Q (.ref t) (upd H t (.tup [.str k,v])):=by
 exists sml rfl,λt U=>q t _ (qf U _) (Is.new (ds:= [.str k,d]) ⟨_,0,[1:?_],_,0,Z,1⟩ U) (SF O h);rcases O with rfl|rfl<;>decide+kernel
def OK:#[T,5,a.WV,a.kn,["pot","names"],CT]:=by
 have qR:=#[Jp,T];have QY:=#[sO,T];have zR:=#[DH,T];exists 9,T.mn,wQ
 erw[h,p,L,zs,rfl,hP,hL,hN,k];have aa:∀{z:Str},Wd 4 z->Wd 20 z:=λh=>⟨h.1,by have:=h.2;omega⟩
 exists 3,%[#[qG,(2),wQ.nd,#[qv,qR,T.ie,#v[pv 0,qh]]],#[qI,#[qm,Dv,pv 2,qh],%[|#[qp,#[qv,QY,T.iB,#v[pv 0,pv 1]]]],qr],#[qI,#[qm,Qr,pv 2,qh],%[|#[qp,#[qW,qZ,T.QH,vn,#v[#[xN,["k","pot","names"],(1),[0,1],Ea (qi J3) ["pot","names","kind"],#[YW,#v[#[qv,qR,T.ie,#v[pv 0,qh]]]],(λ_ _ _ _ _ _=>#[qN,(0),(show Vl (["k","pot","names"]:oj Str) by decide+kernel)]),(λ_ _ _ _ _ _=>#[qv,QY,T.iB,#v[pv 1,pv 2]])]]]]],qr],#[qI,#[qm,Qr,pv 2,qh],%[|#[qp,#[qB,#v[#[qB,#v[#[qv,QY,T.iB,#v[pv 0,pv 1]],#[qB,qd]]],#[qv,QY,T.iB,#v[pv 0,pv 1]]]]]],qr],#[qI,#[qm,Qr,pv 2,qh],%[|#[qp,#[qv,zR,T.ml,#v[pv 0,pv 1]]]],qr]|#[qp,#[qB,#v[#[qY,Qo,ql,#[qv,QY,T.iB,#v[pv 0,pv 1]]],ql,ql]]]]
 exists 0,p,(6),1,hP,(),(),λd1 H1 a0 a1 P1 K1=>?_
 have O:=K1 _ _ hL (hP.ne_strs hL)
 exists 0,_,0,1,0,lL (λ_=>?_) (λ_=>?_)
 ·exact⟨0,0,p,L,zs,1,P1,O,hN,λz H2 hz U Z=>k _ _ H2 (SD (aa hz)) ⟨1,fits (by have:=hz.2;omega)⟩ U (K1.trans Z)⟩
 exists 0,1,0,lL (λ_=>?_) (λ_=>?_)
 ·exists 0,p,(4),1,P1,(),(),λd2 H2 b0 b1 U Z=>?_
  have ac:=Z _ _ O (P1.ne_strs O);obtain⟨n,rfl,hn⟩:∃n:Nat,d2=(n:Int)/\n<4:=[d2.toNat:():()]
  exists n,1,(),(),λD hD=>?_
  have nD:D≠p:=(U.free hD).symm;refine zj (lo:=0) (n:=n) (tl:= [u_ (.ref p),u_ (.ref L)]) (λi ys H'=>∃rs:oj Str,ys=rs.map V.str/\↑rs=i/\(∀r∈rs,Wd 20 r)/\mt H' p/\(∀b o,H2 b=u_ o->b≠p->H' b=u_ o)) (yL ()) ⟨[],1,1,λb hb=>by simp at hb,U.same (qf hD _),λb o e _=>qf hD _ _ _ e⟩ ?_ ?_
  ·rintro j ys H' hj ⟨rs,rfl,af,ad,P',K'⟩ ae hy R hR;have ao:=K' _ _ ac (U.ne_strs ac)
   exists 0,0,p,L,zs,1,P',ao,hN,λr H8 ap P8 K8=>?_;refine hR _ H8 (K8 _ _ ae nD) ⟨rs++ [r],by rw[uD];rfl,by rw[uB,af];rfl,λb hb=>?_,?_,λb o e np=>?_⟩
   ·rcases Ab.mp hb with h|h
    ·exact ad b h
    ·rw[vm] at h;subst h;exact aa ap
   ·erw[P8,x,e2,h2];exact⟨x,by rwa[qj nD.symm],h2⟩
   ·rw[qj (qk e hD)];exact K8 _ _ (K' b o e np) np
  ·rintro ys H' ⟨rs,rfl,af,ad,P',K'⟩ ae
   exists D,0,.inl [SqL.of ae:λt ht=>?_];have s3:=qf ht (.tup (rs.map V.str));exact k _ _ _ (nz () ad) (wJ ad ht) (P'.same s3) (λb o e np=>s3 _ _ (K' b o ((K1.trans Z) b o e np) np))
 exists 0,1,0,lL (λ_=>?_) (λ_=>?_)
 ·exists 0,0,p,L,zs,1,P1,O,hN,λz1 H2 ag U Z=>[uP _:λt0 ah=>[sml rfl:λt1 ak=>?_]];have ac:=Z _ _ O (P1.ne_strs O);have s0:=qf ah (.tup ([]:oj V));have s1:=s0.trans (qf ak (.tup [.str z1,.ref t0]));have i0:Is (upd H2 t0 (.tup [])) (.tup []) (.ref t0):=Is.new (ds:= []) rfl ah;have i1:Is (upd (upd H2 t0 (.tup [])) t1 (.tup [.str z1,.ref t0])) (.tup [.str z1,.tup []]) (.ref t1):=Is.new (ds:= [.str z1,.tup []]) ⟨_,0,⟨1,fits (by have:=ag.2;omega)⟩,_,0,i0,1⟩ ak
  generalize upd (upd H2 t0 (.tup [])) t1 (.tup [.str z1,.ref t0])=H3 at s1 i1⊢;have P3:=U.same s1
  exists 0,0,p,L,zs,1,P3,s1 _ _ ac,hN,λz2 H4 al P4 K4=>[sml rfl:λt2 am=>?_];have s2:=qf am (.tup [.ref t1,.str z2]);refine k _ _ _ (Iw (aa ag) (aa al)) (Is.new (ds:= [.tup [.str z1,.tup []],.str z2]) ⟨_,0,i1.mono (P3.tk P4 K4),_,0,⟨1,fits (by have:=al.2;omega)⟩,1⟩ am) (P4.same s2) ((((K1.trans Z).trans (jA.of s1)).trans K4).trans (jA.of s2))
 exists 0,1,0,lL (λ_=>?_) (λ_=>?_)
 ·exact⟨0,0,p,L,zs,1,P1,O,hN,λv d H2 hd hv U Z=>k v d H2 hd hv U (K1.trans Z)⟩
 ·have ta:Wd 7 "text a ":=[():uq _]
  exists 0,0,p,L,zs,1,P1,O,hN,λz H2 hz U Z=>⟨_,0,1,fits (by have:=hz.2;have:=ta.2;omega),sml rfl,λt ht=>?_⟩
  have all:∀y∈(["text a "++z,"ask b a","say b"]:oj Str),Wd 20 y:=λy hy=>by
   simp![uG,uH,uS] at hy;rcases hy with rfl|rfl|rfl
   ·exact ta.cat hz ()
   ·exact[():()]
   ·exact[():()]
  have s2:=qf ht (.tup ((["text a "++z,"ask b a","say b"]:oj Str).map V.str));exact k _ _ _ (nz (by show 3<=14;decide) all) (wJ all ht) (U.same s2) ((K1.trans Z).trans (jA.of s2))
def Ov:#[T,6,a.Zl,a.Zr,["pot","names"],Np]:=by
 have qR:=#[Jp,T];have WQ:=#[OK,T];have zR:=#[DH,T];have O:=#[Le,T];exists 9,T.mw,XJ
 erw[h,p,L,zs,rfl,hP,hL,hN,k];have ad:=hN.1;have ae:=hN.2.1;exists 3,%[#[qG,(2),XJ.nd,#[qv,qR,T.ie,#v[pv 0,qh]]],#[qI,#[qm,Dv,pv 2,qh],%[|#[qp,#[qB,#v[ql,#[qv,WQ,T.mn,#v[pv 0,pv 1]]]]]],qr],#[qI,#[qm,Dv,pv 2,qh],%[|#[qp,#[qB,#v[ql,#[qv,zR,T.ml,#v[pv 0,pv 1]]]]]],qr],#[qI,#[qm,Qr,pv 2,qh],%[|#[qp,#[qB,#v[ql,#[qv,O,T.mI,#v[pv 0,pv 1]]]]]],qr],@qI _ _ _ _ _ _ _ _ #[X1,#[qm,Qr,pv 2,qh],#[jP,#[qm,Qr,#[qv,qR,T.ie,#v[pv 0,qh]],qh]]].pt %[|#[qp,#[qB,#v[ql,#[qv,WQ,T.mn,#v[pv 0,pv 1]]]]]] qr|#[qp,#[qB,#v[ql,#[qF,Yj,pv 1,#[qv,qR,T.ie,#v[pv 0,#[qx,qD,T.Q0,uL,#v[pv 1]]]]]]]]]
 exists 0,p,(10),1,hP,(),(),λd1 H1 a0 a1 P1 K1=>?_
 have Z:=K1 _ _ hL (hP.ne_strs hL);have fin:∀{H3 H2:Hp}{kk:Str}{d:D}{v:V},mt H3 p->jA p H H3->kk="leaf"∨kk="rule"->PM d->Is H2 d v->mt H2 p->jA p H3 H2-> [V.str kk,v].length<=V9/\∀t,H2 t=U_->Q (.ref t) (upd H2 t (.tup [.str kk,v])):=λ{H3 H2 kk d v} P3 K3 hk hd U P2 K2=>
  CN hk hd U λt H4 s4 i4 o4=>k _ _ H4 o4 i4 (P2.same s4) ((K3.trans K2).trans (jA.of s4))
 exists 0,_,0,1,0,lL (λ_=>?_) (λ_=>?_)
 ·exact⟨0,0,p,L,zs,1,P1,Z,hN,λv d H2 hd U P2 K2=>fin P1 K1 (.inl rfl) hd U P2 K2⟩
 exists 0,_,0,1,0,lL (λ_=>?_) (λ_=>?_)
 ·exact⟨0,0,p,L,zs,1,P1,Z,hN,λv d H2 hd U P2 K2=>fin P1 K1 (.inr rfl) hd U P2 K2⟩
 exists 0,1,0,lL (λ_=>?_) (λ_=>?_)
 ·exact⟨0,0,p,L,zs,1,P1,Z,hN,λv d H2 hd U P2 K2=>fin P1 K1 (.inr rfl) hd U P2 K2⟩
 show nh _ _ _ _ H1;refine qC λN0 n0=>n0 _ _ ?_;exists 8,BB,bb;have made:∀{H3:Hp},mt H3 p->jA p H H3->BB [u_ (V.ref p),u_ (V.ref L),u_ (V.int d1)] H3:=by
  intro H3 P3 K3;refine bb _ _ ?_;have aa:=K3 _ _ hL (hP.ne_strs hL)
  exists 5
  refine⟨0,0,0,L,0,.inl (SqL.of aa),p,0,P3,by rw[ud];omega,by rw[ud];omega,λd2 H4 b0 b1 P4 K4=>?_⟩
  erw[jJ (xs:=zs.map V.str) b0 b1,v,U];erw[Ac.mp (Xk U),z,hz,rfl]
  exists L,_,_,0,1,SqL.of (K4 _ _ aa (P3.ne_strs aa)),U,sml rfl,λt ht=>?_;have s4:=qf ht (.tup [.str "made",.str z]);have ac:=hN.2.2 z hz;exact k _ _ _ (Iz ac.1) (Is.new (ds:= [.str "made",.str z]) ⟨_,0,[1:()],_,0,[1:fits ()],1⟩ ht) (P4.same s4) ((K3.trans K4).trans (jA.of s4))
 exists 0,1,0,lL (λ_=>?_) (λ_=>?_)
 ·exists 0,p,(4),1,P1,(),(),λd2 H2 b0 b1 P2 K2=>[1:0:lL (λ_=>?_) (λ_=>?_)]
  ·exact⟨0,0,p,L,zs,1,P2,K2 _ _ Z (P1.ne_strs Z),hN,λv d H3 hd U P3 K3=>fin P2 (K1.trans K2) (.inr rfl) hd U P3 K3⟩
  ·exact made P2 (K1.trans K2)
 ·exact iP (made P1 K1)
def SqL.keepK {K:o0}{a:o3}(e:∀o,H a=u_ o->H' a=u_ o)(h:SqL K H a xs):SqL K H' a xs:=by
 rcases h with(h|⟨o,h⟩)|h
 ·exact .inl (.inl (e _ h))
 ·exact .inl (.inr [o:e _ h])
 ·exact .inr h
nonrec def N8:oj Str:= ["a","b1","c/d","e.f","g","h9","k","m/n"]
def AaS:∀z∈N8,nm z=v_/\↑z<=4:=by decide+kernel
def Acu:N8.Nodup:=by decide+kernel
def BE {vs:oj V}:ni vs U_ (u_ (n:Int))=vs.take n:=by
 unfold ni;rw[HT.sIx_none,HT.sIx_nat,Hr,Nat.sub_zero];rcases tG n ↑vs with h|h
 ·rw[FT h]
 ·rw[Nat.min_eq_right h,vk (uq _),vk h]
def Ep {ns:oj Int}:∀{ys:oj V},(∀y∈ys,y∈ns.map V.int)->∃O:oj Int,ys=O.map V.int
 | [],_=>[[]:1]
 |y::r,h=>by
  erw[Ac.mp (h y uj),i,_,e];obtain⟨O,U⟩:=Ep (ys:=r) λz Z=>h z (ui _ Z);exact⟨i::O,by rw[U,<-e];rfl⟩
def Ni {K:o0}(h:SqL K H q xs)(s:ia H H'):SqL K H' q xs:=SqL.keepK (λo e=>s _ _ e) h
nonrec def Adz (i:Int):Str:=Vi i
nonrec def nK (k:Nat):Str:="n"++Adz (8+(k:Int))
def AaQ:∀k:Nat,k<12->nm (nK k)=v_/\↑(nK k)<=4:=by decide+kernel
def Act:(N8++(Vh 12).map nK).Nodup:=by decide+kernel
nonrec def NmU (zs:oj Str):Prop:=Nm4 zs/\zs.Nodup
def O6 (h1:1<=n)(h2:n<=8):NmU (N8.take n):=by
 have e:↑(N8.take n)=n:=by rw[vM];show min n 8=n;omega
 exact[[():():λz O=>AaS z (rP O)]:Fz (RF _ _) Acu]
variable {j:Nat}
def AaR (h:j<=12):NmU (N8++(Vh j).map nK):=by
 refine⟨⟨by rw[uB];show 1<=8+_;omega,by rw[uB,ud,RL];show 8+j<=20;omega,λz O=>?_⟩,Fz (RS (rR _) (pk _ (List.range_sublist.mpr h))) Act⟩
 rcases Ab.mp O with h1|h1
 ·exact AaS z h1
 ·erw[Ac.mp h1,k,U,rfl];exact AaQ k (by have:=List.mem_range.mp U;omega)
inductive NP (K:PySem.W.Frag):Sp
 |mk (q:Addr)(ns:List Int)(_:vs= [.ref q])(_:SqL K H q (ns.map V.int))(_:∀(L:Addr)(zs:List Str)(H':Hp),ia H H'->H' L=u_ (.lst (zs.map V.str))->NmU zs->Q (.ref L) H')
inductive ND:Sp
 |mk (p L:Addr)(zs:List Str)(j:Int)(_:vs= [.ref p,.ref L,.int j])(_:0<=j)(_:j<=1000)(_:mt H p)(_:H L=u_ (.lst (zs.map V.str)))(_:Nm4 zs)(_:∀(v:V)(d:D)(H':Hp),Wp d->Is H' d v->mt H' p->jA p H H'->Q v H')
inductive NB (K:PySem.W.Frag):Sp
 |mk (q:Addr)(ns:List Int)(_:vs= [.ref q])(_:SqL K H q (ns.map V.int))(_:∀(L:Addr)(ps:List (Str×D))(us:List V)(H':Hp),ia H H'->H' L=u_ (.lst us)->L2.IsL H' (ps.map prD) us->AcR ps->(∀p∈ps,↑p.1<=4)->↑ps<=20->Q (.ref L) H')
def OV:#[T,2,a.JP,a.JQ,["script"],(NP K)]:=by
 have jO:=#[DO,T];exists 9,T.lW,Yi
 erw[h,q,ns,rfl,hq,k];have hs:=uI;exists 3,%[#[qG,(1),Yi.nd,#[qv,jO,T.lE,#v[pv 0,qh]]],#[qG,(2),Yi.nd,#[Q9,#v[ql,ql,ql,ql,ql,ql,ql,ql]]],#[qI,#[qm,Qr,#[qY,xp,#[qY,sN,pv 1,qh],qh],qh],%[|#[qp,#[qY,AW,pv 2,#[xN,["k"],(1),[],Sl,#[nY,7,_,T.jI,#v[qh,#[qY,yi,qh,#[qY,xp,#[qY,sN,pv 1,qh],qh]]],_,_],(λ_ _ _ _ _ _=>#[qN,(0),(show Vl (["k"]:oj Str) by decide+kernel)]),(λ_ _ _ _ _ _=>#[qY,Qo,ql,#[qW,Y9,T.Zi,UB,#v[pv 0]]])]]]],qr]|#[qp,#[Ys,KI,pv 2,JC,#[YM,#[qY,yi,qh,#[qY,xp,pv 1,qh]]]]]]
 exists 8,N1,q1
 exists 0,q,ns,(0),1,(),hq,λc=>q1 _ _ ?_
 exists 8,N2,q2
 exists sml rfl,λl0 U=>q2 _ _ ?_;have Z:=qf U (.lst (N8.map V.str));have e0:(upd H l0 (.lst (N8.map V.str))) l0=u_ (.lst (N8.map V.str)):=qg;show nh _ _ _ _ (upd H l0 (.lst (N8.map V.str)));generalize upd H l0 (.lst (N8.map V.str))=H0 at Z e0⊢;exists 8,N3,q3
 exists 0,_,0,1,[():()],_,0,1,(by show(0:Int)<8;decide),1,0,lL (λ_=>?_) (λ_=>q3 _ _ ?_)
 ·have m1:0<=c/64%12/\c/64%12<12:=[Us _ ():vY _ ()]
  exists 0,0,_,0,1,[():()],_,0,1,(by show(0:Int)<12;decide),_,0,1,_,0,⟨(),(),(),()⟩,λD hD=>?_
  obtain⟨j,hj,aa⟩:∃j:Nat,(9+c/64%12-8).toNat=j/\j<=12:=[0:()]
  rw[hj];refine zj (lo:=8) (n:=j) (tl:= []) (λi ys H'=>ys=((Vh i).map nK).map V.str/\ia H0 H') (yL ()) [1:qf hD _] ?_ ?_
  ·rintro i ys H' hi ⟨rfl,s1⟩ O hy R hR;have hn:=AaQ i ()
   have ac:(8+(i:Int)).natAbs.log2<1920:=Uj (V2 _) ()
   exists 0,0,ac,_,0,1,?_,?_
   ·have:=hn.2;rw[<-Ar];exact fits (uT this ())
   ·refine hR _ H' O ⟨?_,λb o e=>by rw[qj (qk e hD)];exact s1 b o e⟩
    rw[tW,uD,uD]
    rfl
  ·rintro ys H' ⟨rfl,s1⟩ O;have e1:=s1 _ _ e0;erw[AaR aa,n1,n2]
   exists l0,D,_,0,1,e1,O,?_,λt ht=>?_
   ·rw[ud,ud,<-uB];exact fits (by have:=n1.2.1;omega)
   ·refine k t (N8++(Vh j).map nK) _ ((Z.trans s1).trans (qf ht _)) ?_ [n1:n2];rw[qg,uD]
 ·have m1:0<=c%8/\c%8<8:=[Us _ ():vY _ ()]
  obtain⟨n,hn,ad,ae⟩:∃n:Nat,1+c%8=(n:Int)/\1<=n/\n<=8:=⟨(1+c%8).toNat,(),(),()⟩
  exists 0,0,_,0,1,(by show(0:Int)<8;decide),_,0,1
  try dsimp only
  rw[hn]
  exists 0,l0,0,SqL.of e0,λl hl=>?_;rw[BE,<-Tz];exact k l (N8.take n) _ (Z.trans (qf hl _)) qg (O6 ad ae)
def OH:#[T,2,a.ku,a.WZ,["pot","names","k"],ND]:=by
 have qR:=#[Jp,T];exists 9,T.mQ,wP
 erw[h,p,L,zs,j,rfl,ad,ae,hP,hL,hN,k];have ac:=hP.ne_strs hL;exists 3,%[#[qG,(3),wP.nd,#[qF,Yj,pv 1,#[qY,xp,#[qY,yi,#[qY,yi,pv 2,qh],#[qv,qR,T.ie,#v[pv 0,qh]]],#[qx,qD,T.Q0,uL,#v[pv 1]]]]]|#[qp,#[qB,#v[ql,#[qB,#v[#[qY,Qo,ql,pv 3],ql,ql]]]]]]
 exists 0,0,_,0,1,0,p,(3),1,hP,(),(),λd1 H1 a0 a1 P1 K1=>?_
 have U:=K1 _ _ hL ac;have Z:0<(↑(zs.map V.str):Int):=by rw[ud];have:=hN.1;omega
 exists _,0,1,0,L,0,.inl (SqL.of U),_,0,1,Z;erw[jJ (xs:=zs.map V.str) (i:=(j+1+d1)%(↑(zs.map V.str):Int)) (Us _ ()) (vY _ Z),x1,aa]
 erw[Ac.mp (Xk aa),z,hz,rfl]
 exists L,_,_,0,1,SqL.of U,aa;have O:=hN.2.2 z hz;have ta:Wd 7 "text a ":=[():uq _]
 have wz:Wd 4 z:=[DV O.1:O.2]
 exists 0,_,0,1,fits (by have:=O.2;have:=ta.2;omega),sml rfl,λt ht=>?_
 have all:∀y∈(["text a "++z,"ask b a","say b"]:oj Str),Wd 20 y:=λy hy=>by
  simp![uG,uH,uS] at hy;rcases hy with rfl|rfl|rfl
  ·exact ta.cat wz ()
  ·exact[():()]
  ·exact[():()]
 have s2:=qf ht (.tup ((["text a "++z,"ask b a","say b"]:oj Str).map V.str));exact CN (.inr rfl) (nz (by show 3<=14;decide) all) (wJ all ht) λt2 H2 s3 i3 h3=>k _ _ H2 h3 i3 ((P1.same s2).same s3) ((K1.trans (jA.of s2)).trans (jA.of s3))
def Lf:#[T,7,a.zi,a.zl,["script"],(NB K)]:=by
 have wK:=#[OV,T];have aa:=#[OH,T];have qR:=#[Jp,T];have ac:=#[OC,T];have U:=#[Ov,T];exists 9,T.mh,QZ
 erw[h,q,ns,rfl,hq,k];have hs:=uI;exists 3,%[#[qG,(1),QZ.nd,#[qv,wK,T.lW,#v[pv 0]]],#[qG,(2),QZ.nd,#[Q9,qd]],#[Je,#[YW,#v[#[qx,qD,T.Q0,uL,#v[pv 1]]]],#[qN,(3),QZ.nd],%[#[qG,(4),QZ.nd,#[qx,#[E5,1,rfl],T.z_sum,boot_sum,#v[#[Dm,9,pv 0,#[YM,#[qY,yi,qh,pv 3]],#[qx,#[oY,1,rfl],T.z_max,boot_max,#v[qh,#[qx,qD,T.Q0,uL,#v[pv 1]]]],_]]]],#[qG,(5),QZ.nd,#[qv,ac,T.mY,#v[pv 4,pv 3]]]|@qI _ _ _ _ _ _ _ _ #[X1,#[qm,oy,#[qx,qD,T.Q0,uL,#v[pv 1]],qh],#[jP,#[qm,Qr,#[qv,qR,T.ie,#v[pv 5,qh]],qh]]].pt %[|#[Qd,#[jk,uW,vz,vA,Yz,pv 2,#v[#[qB,#v[#[qF,Yj,pv 1,pv 3],#[qv,aa,T.mQ,#v[pv 5,pv 1,pv 3]]]]]]]] %[|#[qI,#[qm,ou,#[qY,xp,pv 4,qh],qh],%[|#[Qd,#[jk,uW,vz,vA,Yz,pv 2,#v[#[qB,#v[#[qF,Yj,pv 1,pv 3],#[qv,U,T.mw,#v[pv 5,pv 1]]]]]]]],qr]]]]|#[qp,pv 2]]
 exists 8,N1,q1
 exists 0,q,ns,1,hq,λl zs H1 s1 e1 hU=>q1 _ _ ?_;erw[hU,hN,aE];exists 8,N2,q2
 exists uP _,λL hL=>q2 _ _ ?_;exists 8,N3,q3;have s2:=s1.trans (qf hL (.lst ([]:oj V)));have aF:H L=none:=s1.free hL;have aG:l≠L:=qk e1 hL;have e2:=qf hL (.lst ([]:oj V)) _ _ e1;have eL:(upd H1 L (.lst [])) L=u_ (.lst []):=qg;generalize upd H1 L (.lst [])=H2 at s2 e2 eL⊢;have aL:=hN.2.1
 exists 0,l,0,.inl (SqL.of e2),↑zs,by rw[ud],(),()
 let J_:Nat->L2.St->Hp->Prop:=λi σ H'=>∃(ps:oj (Str×D)) (us:oj V) (x3 x4 x5:om V),σ= [u_ (.ref q),u_ (.ref l),u_ (.ref L),x3,x4,x5]/\ia H H'/\H' l=u_ (.lst (zs.map V.str))/\H' L=u_ (.lst us)/\L2.IsL H' (ps.map prD) us/\(ps.map (·.1)).Sublist (zs.take i)/\∀p∈ps,Wp p.2
 refine XR (n:=↑zs) J_ ⟨[],[],U_,U_,U_,1,s2,e2,eL,1,List.nil_sublist _,λp hp=>by simp at hp⟩ ?_ ?_
 ·rintro i σ H' hi ⟨ps,us,x3,x4,x5,rfl,sm,el,aq,al,O,ae⟩;have aM:↑ps<=20:=by
   have h1:=O.length_le;rw[ud,vM] at h1;omega
  have aH:=↑al;rw[ud] at aH;have aN:(↑(zs.map V.str):Int)=(↑zs:Int):=by rw[ud]
  show nh _ _ _ _ H';exists 8,B1,b1
  exists 0,0,_,0,1,0,0,l,0,.inl (SqL.of el),_,0,0,(by split<;>omega),q,0,Ni hq sm,λys y0 _ aA aI=>?_
  erw[Ep aA,ms,rfl];have sy:=qf aI (.lst (ms.map V.int));have ey:(upd H' y0 (.lst (ms.map V.int))) y0=u_ (.lst (ms.map V.int)):=qg;have ah:=sy _ _ aq;have ak:=sy _ _ el;generalize upd H' y0 (.lst (ms.map V.int))=H3 at sy ey ah ak⊢;have ao:=al.mono sy.tk;have aB:=sm.trans sy
  exists y0,ms,1,SqL.of ey,b1 _ _ ?_;exists 8,B2,b2
  exists 0,0,_,0,(),(),λp H4 hp s4 P4=>b2 _ _ ?_
  have ad:=s4 _ _ ak;have au:=s4 _ _ ah;have aw:L≠p:=qk ah hp;have af:l≠p:=qk ak hp;have ax:i<↑zs:=hi;have ay:atI (zs.map V.str) (0+(i:Int))=u_ (V.str zs[i]):=by
   rw[show(0:Int)+(i:Int)=((i:Nat):Int) by omega]
   exact qE (by rw[uM,um ax];rfl)
  have hz:=hN.2.2 _ (uO ax);have put:∀(v:V) (d:D) (H5:Hp) (x3 x4 x5:om V),Wp d->Is H5 d v->jA p H4 H5->∀t,H5 t=U_->Dh (.ref L) [.ref t] (upd H5 t (.tup [.str zs[i],v])) (λ_ H1=>J_ (i+1) [u_ (.ref q),u_ (.ref l),u_ (.ref L),x3,x4,x5] H1):=by
   intro v d H5 x3 x4 x5 hd hv Z t ht;have ag:ia H3 H5:=Z.same s4 hp;have st:=qf ht (.tup [.str zs[i],v]);have aC:Is (upd H5 t (.tup [.str zs[i],v])) (prD (zs[i],d)) (.ref t):=Is.new (ds:= [.str zs[i],d]) ⟨_,0,[1:fits ()],_,0,hv,1⟩ ht
   generalize upd H5 t (.tup [.str zs[i],v])=H6 at st aC⊢;have am:=ag.trans st;have aD:=am _ _ ah
   exists L,us,0,1,aD,()
   have tk:Tk H6 (upd H6 L (.lst (us++ [.ref t]))):=Tk.updL aD
   exists ps++ [(zs[i],d)],us++ [.ref t],_,_,0,λb o e=>?_,?_,qg,?_,?_,λp' aJ=>?_
   ·rw[qj (qk e aF)];exact am _ _ (aB _ _ e)
   ·rw[qj aG];exact am _ _ ak
   ·rw[uD];exact((ao.mono am.tk).mono tk).append (L2.IsL.one (aC.mono tk))
   ·rw[Ix ax,uD];exact O.append (rR _)
   ·rcases Ab.mp aJ with h|h
    ·exact ae p' h
    ·cases Aa.mp h;exact hd
  have ap:∀(H5:Hp) (x3 x4 x5:om V),jA p H4 H5->J_ (i+1) [u_ (.ref q),u_ (.ref l),u_ (.ref L),x3,x4,x5] H5:=λH5 x3 x4 x5 Z=>by
   have ag:ia H3 H5:=Z.same s4 hp;exact⟨ps,us,_,_,0,aB.trans ag,ag _ _ ak,ag _ _ ah,ao.mono ag.tk,O.trans (by rw[Ix hi];exact List.sublist_append_left _ _),ae⟩
  exists 0,l,0,.inl (SqL.of ad),_,0,1,0;by_cases c8:(8:Int)<(↑(zs.map V.str):Int)
  ·refine ld (A6 c8) ?_
   exists 0,p,(3),1,P4,(),(),λd5 H5 a5 b5 P5 Z=>[1:0:?_]
   by_cases c3:d5=0
   ·refine ld (A6 (by rw[c3])) ?_
    exists 0,.inl [1:_:SqL.of (Z _ _ au aw)],0,0,l,_,_,V.str zs[i],1,1,SqL.of (Z _ _ ad af),ay;exact⟨0,0,0,p,l,zs,0,(),(),P5,Z _ _ ad af,hN,λv d H6 hd hv P6 K6=>[sml rfl:put v d H6 _ _ _ hd hv (Z.trans K6)]⟩
   ·refine iL (ue (λz=>c3 (V.int.inj z))) ?_
    exists 0,_,0,1,(by show(0:Int)<11;decide),1,0,lL (λ_=>?_) (λ_=>ap _ _ _ _ Z)
    exists 0,.inl [1:_:SqL.of (Z _ _ au aw)],0,0,l,_,_,V.str zs[i],1,1,SqL.of (Z _ _ ad af),ay;exact⟨0,0,p,l,zs,1,P5,Z _ _ ad af,hN,λv d H6 hd hv P6 K6=>[sml rfl:put v d H6 _ _ _ hd hv (Z.trans K6)]⟩
  ·refine iL (ue c8) ?_;have Z:=jA.refl p H4;have P5:=P4
   exists 0,_,0,1,(by show(0:Int)<11;decide),1,0,lL (λ_=>?_) (λ_=>ap _ _ _ _ Z)
   exists 0,.inl [1:_:SqL.of (Z _ _ au aw)],0,0,l,_,_,V.str zs[i],1,1,SqL.of (Z _ _ ad af),ay;exact⟨0,0,p,l,zs,1,P5,Z _ _ ad af,hN,λv d H6 hd hv P6 K6=>[sml rfl:put v d H6 _ _ _ hd hv (Z.trans K6)]⟩
 ·rintro σ H' ⟨ps,us,x3,x4,x5,rfl,sm,el,aq,al,O,ae⟩;rw[Uc] at O;have aK:=O.length_le;rw[ud] at aK;refine q3 _ _ ?_;exact[0:k L ps us H' sm aq al [[λz hz=>(hN.2.2 z (O.mem hz)).1:aE.sublist O]:ae] (λp hp=>(hN.2.2 _ (O.mem (Tw hp))).2) ()]
inductive NN:Sp
 |mk (v:V)(d:D)(_:vs= [v])(_:Is H d v)(_:∀(u:V)(H':Hp),ia H H'->((QI d).isSome=v_->u= .non)->((QI d).isSome=V6->u≠ .non)->Q u H')
inductive C4:Sp
 |mk (v:V)(d:D)(_:vs= [v])(_:Is H d v)(_:∀H',ia H H'->Q (.bl (QI d).isSome) H')
def OT:#[C,4,a.W7,a.WP,["tree"],NN]:=by
 have Z:=#[DJ,T,C];exists 9,T.lT,sF
 erw[h,v,d,rfl,hv,k];exists 3,%[|#[qp,#[qF,qz,#[qv,Z,T.lQ,#v[pv 0]],qh]]]
 exists 0,v,d,1,hv,λu H' x y s' U hu=>?_;erw[hu,p,ws,rfl,hp,w1,r1,rfl,h1,w2,r2,rfl,h2,h3];cases(show r2= [] from h3)
 exists p,_,_,0,1,SqT.of hp,1,k _ H' s' (λe=>?_) (λe=>?_)
 ·erw[XY e,rs,O];erw[U.1 rs O,_,rfl];exact h2
 ·have hn:QI d=none:=by
   cases hh:QI d with
   |none=>rfl
   |some rs=>rw[hh] at e;cases e
  erw[U.2 hn,i,rfl];intro z;rw[z] at h2;cases(show V.non= .int i from h2)
def oA:#[C,5,a.f_is_rule,a.d_is_rule,["value"],C4]:=by
 have O:=#[OT,T,C];exists 9,T.mE,BV,U
 erw[h,v,d,rfl,Z,k];exists 3,%[|#[qp,#[Qg,yI,#[qv,16,O,U.mono (),_,T.lT.m,T.lT.F.kp,T.lT.b,.nil,qA,#v[pv 0],_,_,_],qT]]]
 exists 0,v,d,1,Z,λu H' s' h1 h2=>[1:?_];have e:decide (u=V.non)=(QI d).isSome:=by
  cases c:(QI d).isSome with
  |true=>rw[h1 c];rfl
  |false=>exact ue (h2 c)
 have:=k H' s';rwa[<-e] at this
end
def Db {n:Nat}:∀{ds:oj D},(∀d∈ds,(Qt n d).isSome=v_)->↑(ds.filterMap (Qt n))=↑ds/\ds=(ds.filterMap (Qt n)).map (λr=>D.str (Yc r))/\∀r∈ds.filterMap (Qt n),Jb n 300 r
 | [],_=>[1:1:λr h=>nomatch h]
 |d::ds,h=>by
  erw[XY (h d uj),r,O];obtain⟨h1,h2,h3⟩:=Db (n:=n) (ds:=ds) λx U=>h x (ui _ U);have hd:d= .str (Yc r)/\Jb n 300 r:=by
   cases d with
   |str z=>
    obtain⟨Z,a2⟩:=AJ (show wM n z=u_ r from O)
    exact⟨by rw[a2],Z⟩
   |non=>cases O
   |bl b=>cases O
   |int i=>cases O
   |lst=>cases O
   |dct=>cases O
   |tup xs=>cases O
  rw[U4 O];exists by rw[uu,uu,h1],by rw[uC,<-h2,hd.1],λx U=>?_
  rcases A9.mp U with rfl|U
  ·exact hd.2
  ·exact h3 x U
variable {rs:oj Rw}
def X4 {d:D}(h:QI d=u_ rs):d=Ji rs/\ya rs:=by
 cases d with
 |tup ds=>
  rw[XL] at h;split at h
  ·rename_i O
   simp![uF,ve] at O;erw[O,[[c1,c2],U],Z];cases h;erw[Db (List.all_eq_true.mp U),h1,h2,h3];have e:D.tup ds=Ji (ds.filterMap (Qt ↑ds)):=by
    unfold Ji;rw[<-h2]
   refine⟨e,⟨(),(),?_,by rwa[<-e]⟩⟩
   rwa[h1]
  ·cases h
 |non=>cases h
 |bl b=>cases h
 |int i=>cases h
 |str z=>cases h
 |lst=>cases h
 |dct=>cases h
nonrec def GMT:oj Str:= ["begin","look","wanted","take","full"]
structure GFl (fs:oj (Str×V))(nv ov mv av rv ev:V):Prop where
 Zk:fs.lookup ("name":Str)=u_ nv
 wf:fs.lookup ("order":Str)=u_ ov
 YR:fs.lookup ("made_by":Str)=u_ mv
 yT:fs.lookup ("rule_asks":Str)=u_ av
 Qx:fs.lookup ("rule_run":Str)=u_ rv
 f_end:fs.lookup ("end":Str)=u_ ev
 meth:∀m∈GMT,fs.lookup m=U_
 len:↑fs<=20
section
variable {fs:oj (Str×V)}{nv ov mv av rv ev:V}
def GFl.set_made_by {u:V}(h:GFl fs nv ov mv av rv ev):GFl (iF "made_by" u fs) nv ov u av rv ev:=by
 refine⟨?_,?_,?_,?_,?_,?_,λm hm=>?_,by rw[Y8 h.YR];exact h.len⟩
 all_goals rw[qK]
 all_goals first|rw[A3 rfl]|(rw[A2 ()];first|exact h.Zk|exact h.wf|exact h.YR|exact h.yT|exact h.Qx|exact h.f_end)|(rw[A2 (λe=>by subst e;revert hm;decide+kernel)];exact h.meth m hm)
def GFl.set_rule_asks {u:V}(h:GFl fs nv ov mv av rv ev):GFl (iF "rule_asks" u fs) nv ov mv u rv ev:=by
 refine⟨?_,?_,?_,?_,?_,?_,λm hm=>?_,by rw[Y8 h.yT];exact h.len⟩
 all_goals rw[qK]
 all_goals first|rw[A3 rfl]|(rw[A2 ()];first|exact h.Zk|exact h.wf|exact h.YR|exact h.yT|exact h.Qx|exact h.f_end)|(rw[A2 (λe=>by subst e;revert hm;decide+kernel)];exact h.meth m hm)
def GFl.set_rule_run {u:V}(h:GFl fs nv ov mv av rv ev):GFl (iF "rule_run" u fs) nv ov mv av u ev:=by
 refine⟨?_,?_,?_,?_,?_,?_,λm hm=>?_,by rw[Y8 h.Qx];exact h.len⟩
 all_goals rw[qK]
 all_goals first|rw[A3 rfl]|(rw[A2 ()];first|exact h.Zk|exact h.wf|exact h.YR|exact h.yT|exact h.Qx|exact h.f_end)|(rw[A2 (λe=>by subst e;revert hm;decide+kernel)];exact h.meth m hm)
def GFl.set_end {u:V}(h:GFl fs nv ov mv av rv ev):GFl (iF "end" u fs) nv ov mv av rv u:=by
 refine⟨?_,?_,?_,?_,?_,?_,λm hm=>?_,by rw[Y8 h.f_end];exact h.len⟩
 all_goals rw[qK]
 all_goals first|rw[A3 rfl]|(rw[A2 ()];first|exact h.Zk|exact h.wf|exact h.YR|exact h.yT|exact h.Qx|exact h.f_end)|(rw[A2 (λe=>by subst e;revert hm;decide+kernel)];exact h.meth m hm)
end
structure Gc where
 (x o:o3)
 n:Str
structure Gs where
 mb:D
 ra:oj D
 run:om (Mc×Rn)
 en:D
nonrec def Ws (CM:o3)(H:Hp)(x:o3)(rv:V):om (Mc×Rn)->Prop
 |none=>rv= .non
 |some (m,r)=>rv= .ref m.x/\m.x≠x/\yS CM H m r
nonrec def lY (C CM:o3)(H:Hp)(g:Gc)(s:Gs):Prop:=
 ∃(dx:o3) (fs:oj (Str×V)) (mv av rv ev:V),H g.x=u_ (.ins C dx fs)/\GFl fs (.str g.n) (.ref g.o) mv av rv ev/\Is H s.mb mv/\Is H (.tup s.ra) av/\Ws CM H g.x rv s.run/\Is H s.en ev
variable {CM:o3}
def Ws.same {x:o3}{o:om (Mc×Rn)}(h:Ws CM H x rv o)(s:ia H H'):Ws CM H' x rv o:=by
 cases o with
 |none=>exact h
 |some p=>exact[h.1:h.2.1:h.2.2.same s]
def lY.same {g:Gc}{s:Gs}(h:lY C CM H g s)(sm:ia H H'):lY C CM H' g s:=by
 erw[h,dx,fs,mv,av,rv,ev,e,f,i,j,k,l];exact⟨dx,fs,mv,av,rv,ev,sm _ _ e,f,i.mono sm.tk,j.mono sm.tk,k.same sm,l.mono sm.tk⟩
def yS.put {m:Mc}{r:Rn}{x:o3}{fs:oj (Str×V)}(h:yS CM H m r)(e:H x=u_ (.ins C dx fs))(n:m.x≠x):yS CM (upd H x (.ins C dx fs')) m r:=by
 erw[h,U,Z,rv,ru,tv,gv,e1,f,i,j,b,O,gl,t];have tk:Tk H (upd H x (.ins C dx fs')):=Tk.updI e;have n1:m.db≠x:=Yr.ne e b;have n2:m.dg≠x:=λz=>by rw[z,e] at O;cases O
 exact⟨U,Z,rv,ru,tv,gv,by rwa[qj n],f,i.mono tk,j.mono tk,b.move tk (qj n1),by rwa[qj n2],gl.mono tk,t.mono tk⟩
def Ws.put {x:o3}{fs:oj (Str×V)}{o:om (Mc×Rn)}(h:Ws CM H x rv o)(e:H x=u_ (.ins C dx fs)):Ws CM (upd H x (.ins C dx fs')) x rv o:=by
 cases o with
 |none=>exact h
 |some p=>exact[h.1:h.2.1:h.2.2.put e h.2.1]
structure Gv (g:Gc)(H H':Hp):Prop where
 kept:∀b o,H b=u_ o->b≠g.x->H' b=u_ o
 tk:Tk H H'
def kP {g:Gc}{fs:oj (Str×V)}{mv av ev:V}{s:Gs}(e:H g.x=u_ (.ins C dx fs))(f:GFl fs' (.str g.n) (.ref g.o) mv av rv ev)(i:Is H s.mb mv)(j:Is H (.tup s.ra) av)(k:Ws CM H g.x rv s.run)(l:Is H s.en ev):
  lY C CM (upd H g.x (.ins C dx fs')) g s/\Gv g H (upd H g.x (.ins C dx fs')):=by
 have tk:Tk H (upd H g.x (.ins C dx fs')):=Tk.updI e;exact⟨⟨dx,fs',mv,av,rv,ev,qg,f,i.mono tk,j.mono tk,k.put e,l.mono tk⟩,⟨λb o h n=>by rwa[qj n],tk⟩⟩
nonrec def oF (s:Gs)(r:Rn):Gs:=if QK r.th=v_ then s else{s with en:=r.th}
inductive NC (C CM:Addr):Sp
 |mk (g:Gc)(s:Gs)(m:Mc)(r:Rn)(_:vs= [.ref g.x])(_:lY C CM H g s)(_:s.run=u_ (m,r))(_:Th r.th)(_:∀H',Gv g H H'->lY C CM H' g (oF s r)->Q .non H')
section
variable {P:o9}{w:og}{K:o0}{mg:Str->om o6}{base:o8}{a:Ad}{g:Ga}
def DM:#[T,2,a.Zs,a.Zx,["self"],(NC a.qL a.qo)]:=by
 have Qa:=#[Kj,T];have yB:=#[DL,T];exists 9,T.lU,Kw
 erw[h,g,st,m,r,rfl,hG,O,aa,k];exists 3,%[|#[qI,#[Qv,#[Qh,#[QR,#[qO,5,pv 0,rfl],T.qt,T.il,Qa]]],%[|#[Qm,#[QR,#[qO,5,pv 0,rfl],T.qt,T.iN,yB]]],qr]]
 erw[id hG,dx,fs,mv,av,rv,ev,e,f,i,j,hR,l];rw[O] at hR;erw[hR,rfl,hn,Z];erw[id Z,dm,fm,ac,ru,tv,gv,em,U,i1,i2,i3,i4,i5,i6]
 exists 0,g.x,_,dx,fs,0,e,T.qQ,T.qX,f.Qx,m.x,dm,fm,1,em,U.meth _ (),m,r,1,Z,aa,0
 cases c:QK r.th with
 |true=>
  refine iP (k H [λ_ _ h _=>h:Tk.refl H] ?_);unfold oF;rwa[A3 c]
 |false=>
  refine lC ?_
  exists 0,g.x,_,dx,fs,0,e,T.qQ,T.qX,f.Qx,m.x,dm,fm,1,em,U.meth _ (),m,r,1,Z,λv hv=>?_
  exists 5
  refine⟨0,g.x,_,dx,fs,1,e,T.qQ,T.Q4,by have:=f.len;omega,?_⟩
  have hS:oF st r={st with en:=r.th}:=by
   unfold oF;rw[c];exact A2 uc
  obtain⟨m1,m2⟩:=kP (CM:=a.qo) (s:={st with en:=r.th}) e (f.set_end (u:=v)) i j (by rw[O];exact[1:hn:Z]) hv
  refine k _ m2 ?_;rw[hS];exact m1
inductive CW (CM:Addr):Sp
 |mk (o:Addr)(v:V)(rs:List Rw)(own:Str)(_:vs= [.ref o,v,.str own])(_:Is H (Ji rs) v)(_:ya rs)(_:nm own=v_)(_:∀(mc:Mc)(H':Hp),ia H H'->H mc.x=U_->H mc.db=U_->H mc.dg=U_->mc.rs=rs->mc.own=own->yS CM H' mc (mF rs own [] 300 B0 1 0)->Q (.ref mc.x) H')
def DF:#[C,8,a.Yx,a.YF,["self","rule","own"],(CW a.qo)]:=by
 have jh:=#[AY,T,C];exists 9,T.iU,J9
 erw[h,o,v,rs,own,rfl,hv,hR,hn,k];have hl:=wL hn;have hI:∀H:Hp,Is H (.str own) (.str own):=λH=>Yb ()
 exists 3,%[|#[qp,#[wn,T.M_Machine,jh,T.m_Machine,T.lc,Aay,#v[pv 1,pv 2]]]]
 exists 0,0,λx dx Z aa nx=>?_;have U:ia H (upd (upd H dx (.own x)) x (.ins a.qo dx [])):=λb o h=>by rwa[qj (qk h Z),qj (qk h aa)]
 exists x,dx,v,.str own,Ji rs,.str own,1,qg,hv.mono U.tk,hI _,λz=>?_,λ_ z=>?_,λO af e1 ac e2 ag ah H' db dg kept ad ae hM=>[1:?_]
 ·rw[hR.read] at z;cases z
 ·have:mG (.str own)=true:=hn;rw[this] at z;cases z
 ·have e3:O=rs:=by
   have h1:=hR.read;rw[e1,ac.read] at h1;exact uN h1
  cases e2;subst e3;exact k ⟨x,db,dg,O,own⟩ H' (λb o h=>kept b o (U b o h) (qk h Z)) Z (U.free ad) (U.free ae) rfl rfl hM
nonrec def R0 (rs:oj Rw)(n:Str):Rn:=mF rs n [] 300 B0 1 0
structure L6 (H:Hp)(g:Gc)(d:D)(s s':Gs):Prop where
 mb:s'.mb=s.mb
 ra:s'.ra=s.ra
 lack:d= .non->s'.run=U_/\s'.en=flt "lack"
 rule:d≠ .non->QI d=U_->s'.run=U_/\s'.en=flt "rule"
 go:∀rs,QI d=u_ rs->∃mc:Mc,H mc.x=U_/\H mc.db=U_/\H mc.dg=U_/\mc.rs=rs/\mc.own=g.n/\s'.run=u_ (mc,R0 rs g.n)/\s'.en=if QK (R0 rs g.n).th=v_ then s.en else(R0 rs g.n).th
inductive IN (C CM CO:Addr):Sp
 |mk (g:Gc)(s:Gs)(v:V)(d:D)(_:vs= [.ref g.x,v])(_:lY C CM H g s)(_:s.run=U_)(_:nm g.n=v_)(_:Is H d v)(_:(∃dx fs,H g.o=u_ (.ins CO dx fs)/\fs.lookup ("runner":Str)=U_))(_:∀H' s',Gv g H H'->lY C CM H' g s'->L6 H g d s s'->Q .non H')
def PQ {n:Str}(h:ya rs):Ih rs (R0 rs n):=sI h 300 B0 1 0 [] rfl Se () (by have:=h.n0;omega) ⟨1,by simp[dpL],uq _⟩
def AcQ {n:Str}(h:ya rs):Th (R0 rs n).th:= .inr (PQ h).two
def AZ:#[C,9,a.XG,a.X3,["self","rule"],(IN a.qL a.qo a.qq)]:=by
 have wk:=#[oA,T,C];have Xi:=#[DF,T,C];have JL:=#[DM,T];exists 9,T.lG,Wx
 erw[h,g,st,v,d,rfl,hG,O,hn,hv,[ad,ae,ho,af],k];have hs:=uI;erw[id hG,dx,fs,mv,av,rv,ev,e,f,i,j,hR,l];rw[O] at hR;exists 3,%[|#[qI,#[qm,yI,pv 1,qT],%[|#[Qm,#[qB,#v[ql,ql]]]],%[|#[qI,#[Qv,#[Qh,#[qv,wk,T.mE,#v[pv 1]]]],%[|#[Qm,#[qB,#v[ql,ql]]]],%[#[Qm,#[Qf,#[qO,5,pv 0,rfl],T.qy,T.iU,Xi,#v[pv 1,#[qO,5,pv 0,rfl]]]]|#[Qd,#[QR,pv 0,T.qQ,T.lU,JL]]]]]]]
 exists 0,1,0;have fl:∀(z:Str) (H:Hp) (l:o3),↑z<=100->H l=U_->Is (upd H l (.tup [.str "fault",.str z])) (flt z) (.ref l):=λz H l hz hl=>Is.new (ds:= [.str "fault",.str z]) ⟨_,0,Yb (),_,0,Yb (),1⟩ hl
 have aa:↑fs<1000:=by have:=f.len;omega
 have put:∀(z:Str) (t:o3) (H':Hp),↑z<=100->ia H H'->H' t=U_->((d= .non->z="lack")/\(d≠ .non->z="rule"/\QI d=U_))->Q .non (upd (upd H' t (.tup [.str "fault",.str z])) g.x (.ins a.qL dx (iF "end" (.ref t) fs))):=λz t H' hz s' Z hd=>by
  have s1:=s'.trans (qf Z (.tup [.str "fault",.str z]));obtain⟨m1,m2⟩:=kP (CM:=a.qo) (g:=g) (s:={st with en:=flt z}) (s1 _ _ e) (f.set_end (u:= .ref t)) (i.mono s1.tk) (j.mono s1.tk) (by show Ws _ _ _ _ st.run;rwa[O]) (fl z H' t hz Z)
  refine k _ _ [λb o h n=>m2.kept b o (s1 b o h) n:s1.tk.trans m2.tk] m1 ⟨1,1,λh=>⟨O,by rw[hd.1 h]⟩,λh _=>⟨O,by rw[(hd.2 h).1]⟩,λrs h=>?_⟩
  by_cases c:d= .non
  ·rw[c] at h;cases h
  ·rw[(hd.2 c).2] at h;cases h
 by_cases c:d= .non
 ·subst c;cases(show v= .non from hv)
  refine ld (A6 rfl) [(sml rfl):λt Z=>?_]
  exists 0,g.x,_,dx,fs,1,(qf Z _) _ _ e,T.qQ,T.Q4,aa;exact put "lack" t H () (ia.refl _) Z [λ_=>rfl:λh=>A7 rfl h]
 ·refine iL (ue (YL hv c)) ?_
  exists 0,v,d,1,hv,λH1 s1=>[0:?_];cases hd:QI d with
  |none=>
   refine lC [(sml rfl):λt Z=>?_]
   exists 0,g.x,_,dx,fs,1,(qf Z _) _ _ (s1 _ _ e),T.qQ,T.Q4,aa;exact put "rule" t H1 () s1 Z [λh=>A7 h c:λ_=>[1:hd]]
  |some rs=>
   refine iP ?_;erw[X4 hd,ed,ac];have e1:=s1 _ _ e
   exists 5
   refine⟨0,g.x,_,dx,fs,0,e1,T.qQ,T.XN,f.wf,g.o,ad,ae,1,s1 _ _ ho,af,0,0,g.x,_,dx,fs,0,e1,T.qQ,T.y9,f.Zk,g.o,v,rs,g.n,1,by rw[<-ed];exact hv.mono s1.tk,ac,hn,λmc H2 s2 nx nb ng ag ah hM=>?_⟩
   have e2:=s2 _ _ e1;have U:=s1.trans s2
   exists 0,g.x,_,dx,fs,1,e2,T.qQ,T.qX,aa;have ak:mc.x≠g.x:=(qk e1 nx).symm;erw[kP (C:=a.qL) (CM:=a.qo) (g:=g) (s:={st with run:=u_ (mc,R0 rs g.n)}) e2 (f.set_rule_run (u:= .ref mc.x)) (i.mono U.tk) (j.mono U.tk) [1:ak:hM] (l.mono U.tk),m1,m2]
   erw[id m1,al,am,_,_,_,_,e3,f3,_]
   exists 0,g.x,al,am,1,e3,f3.meth _ (),g,_,mc,R0 rs g.n,1,m1,1,AcQ ac,λH3 v3 G3=>k H3 _ [λb o h n=>v3.kept b o (m2.kept b o (U b o h) n) n:(U.tk.trans m2.tk).trans v3.tk] G3 ?_
   unfold oF
   exists 5
   refine⟨by split<;>rfl,by split<;>rfl,λh=>A7 h c,(λ_ h=>by rw[hd] at h;cases h),λao h=>?_⟩
   rw[hd] at h;cases h
   exists 5
   refine⟨mc,s1.free nx,s1.free nb,s1.free ng,ag,ah,by split<;>rfl,?_⟩
   split<;>rfl
inductive X7 (C CM:Addr):Sp
 |mk (g:Gc)(s:Gs)(_:vs= [.ref g.x])(_:lY C CM H g s)(_:((s.run=U_/\∃z,s.mb= .str z/\∀v H',ia H H'->Is H' (.tup [.str "rule",.str z]) v->Q v H')∨∃mc r d,s.run=u_ (mc,r)/\r.th= .tup [.str "asks",d]/\∀v,Is H d v->Q v H))
nonrec def Aai:om (Mc×Rn)->oj D
 |none=> []
 |some (_,r)=>r.gs
nonrec def LN (s:Gs):D:= .tup [.tup (s.ra++Aai s.run),s.en]
inductive NJ (C CM:Addr):Sp
 |mk (g:Gc)(s:Gs)(_:vs= [.ref g.x])(_:lY C CM H g s)(_:↑s.ra+↑(Aai s.run)<=1000)(_:∀v H',ia H H'->Is H' (LN s) v->Q v H')
variable {v:V}{Q:VK}
def Pz {K:o0}{xs ys:oj D}{u:V}(O:Is H (.tup xs) v)(U:Is H (.tup ys) u)(hl:↑xs+↑ys<=1000)(k:∀p H',ia H H'->Is H' (.tup (xs++ys)) p->Q p H'):IX K v u H Q:=by
 erw[id O,a,vs,rfl,ha,Z];erw[id U,b,us,rfl,hb,ib];have la:=↑Z;have lb:=↑ib;have hs:=uI;exists a,b,vs,us,1,1,SqT.of ha,SqT.of hb,(),λe=>?_,λ_ e=>?_,λ_ _ p hp=>?_
 ·have:xs= []:=List.length_eq_zero_iff.mp (by rw[e] at la;simpa using la.symm)
  rw[this] at k;exact k _ H (ia.refl _) U
 ·have:ys= []:=List.length_eq_zero_iff.mp (by rw[e] at lb;simpa using lb.symm)
  rw[this,vg] at k;exact k _ H (ia.refl _) O
 ·have n:=qf hp (.tup (vs++us));exact k _ _ n ⟨p,0,qg,(Z.append ib).mono n.tk⟩
def DB:#[T,2,a.xh,a.xt,["self"],(X7 a.qL a.qo)]:=by
 have yB:=#[DL,T];exists 9,T.l7,ZY
 erw[h,g,st,rfl,hG,h];have hs:=uI;erw[id hG,dx,fs,mv,av,rv,ev,e,f,i,j,U,l];exists 3,%[#[qI,#[qm,yI,#[qO,5,pv 0,rfl],qT],%[|#[qp,#[qB,#v[ql,#[qO,5,pv 0,rfl]]]]],qr]|#[qp,#[qF,XO,#[QR,#[qO,5,pv 0,rfl],T.qt,T.iN,yB],qh]]]
 exists 0,g.x,_,dx,fs,0,e,T.qQ,T.qX,f.Qx,1,0;rcases h with⟨O,z,hz,k⟩|⟨mc,r,d,O,Z,k⟩
 ·rw[O] at U;cases(show rv= .non from U)
  rw[hz] at i;obtain⟨rfl,hl⟩:=(show mv= .str z/\↑z<=V9 from i)
  refine ld (A6 rfl) ⟨0,g.x,_,dx,fs,0,e,T.qQ,T.yE,f.YR,(sml rfl),λt ht=>?_⟩;exact k _ _ (qf ht _) (Is.new ⟨_,0,Yb (),_,0,[1:hl],1⟩ ht)
 ·rw[O] at U;erw[U,rfl,hn,hM];erw[id hM,dm,fm,ac,ru,tv,gv,em,aa,i1,i2,i3,i4,i5,i6];refine iL (ue (λz=>by cases z)) ?_
  exists 0,g.x,_,dx,fs,0,e,T.qQ,T.qX,f.Qx,mc.x,dm,fm,1,em,aa.meth _ (),mc,r,1,hM,λv hv=>?_
  rw[Z] at hv;exact .inr (.inl (xT (i:=1) (d:=d) hv (qE (j:=1) rfl) λq hq=>k q hq))
def OQ:#[T,2,a.ZF,a.ZG,["self"],(NJ a.qL a.qo)]:=by
 have Yw:=#[DP,T];exists 9,T.mz,X0
 erw[h,g,st,rfl,hG,hl,k];have hs:=uI;erw[id hG,dx,fs,mv,av,rv,ev,e,f,i,j,Z,l];exists 3,%[#[qG,(1),X0.nd,#[Q6,#[qm,yI,#[qO,5,pv 0,rfl],qT],#[qB,qd],#[QR,#[qO,5,pv 0,rfl],T.qt,T.iS,Yw]]]|#[qp,#[qB,#v[#[qY,wN,#[qO,5,pv 0,rfl],pv 1],#[qO,5,pv 0,rfl]]]]]
 have fin:∀(v:V) (H1:Hp),ia H H1->Is H1 (.tup (Aai st.run)) v->Ab3 K (SG 0) "rule_asks" [u_ (.ref g.x),u_ v] H1 λx H2=>SG 1 [u_ (.ref g.x),u_ v] H2 λy H3=>IX K x y H3 λz H4=>Ab3 K (SG 0) "end" [u_ (.ref g.x),u_ v] H4 λu H5=> [z,u].length<=V9/\∀p,H5 p=U_->Q (.ref p) (upd H5 p (.tup [z,u])):=λv H1 s1 hv=>by
  exists 0,g.x,_,dx,fs,0,s1 _ _ e,T.qQ,T.yO,f.yT,0;refine Pz (j.mono s1.tk) hv hl λz H4 s4 i4=>?_;have U:=s1.trans s4
  exists 0,g.x,_,dx,fs,0,U _ _ e,T.qQ,T.Q4,f.f_end,(sml rfl),λp hp=>?_;have n:=qf hp (.tup [z,ev]);exact k _ _ (U.trans n) (Is.new ⟨_,0,i4,_,0,l.mono U.tk,1⟩ hp)
 exists 0,g.x,_,dx,fs,0,e,T.qQ,T.qX,f.Qx,1,0;cases O:st.run with
 |none=>
  rw[O] at Z fin;cases(show rv= .non from Z)
  refine ld (A6 rfl) [(sml rfl):λt ht=>?_];exact fin _ _ (qf ht _) (Is.new (ds:= []) rfl ht)
 |some p=>
  erw[p,mc,r];rw[O] at Z fin;erw[Z,rfl,hn,hM];erw[id hM,dm,fm,ac,ru,tv,gv,em,aa,i1,i2,i3,i4,i5,i6];refine iL (ue (λz=>by cases z)) ?_
  exists 0,g.x,_,dx,fs,0,e,T.qQ,T.qX,f.Qx,mc.x,dm,fm,1,em,aa.meth _ (),mc,r,1,hM,λv H1 s1 hv=>?_
  exact fin v H1 s1 hv
structure Gw (g:Gc)(o:om (Mc×Rn))(H H':Hp):Prop where
 kept:∀b ob,H b=u_ ob->b≠g.x->(∀mc r,o=u_ (mc,r)->b≠mc.x/\b≠mc.db/\b≠mc.dg)->H' b=u_ ob
 tk:Tk H H'
inductive XC (C CM CO:Addr):Sp
 |mk (g:Gc)(s:Gs)(v:V)(d:D)(_:vs= [.ref g.x,v])(_:lY C CM H g s)(_:nm g.n=v_)(_:Is H d v)(_:g.o≠g.x)(_:(∃dx fs,H g.o=u_ (.ins CO dx fs)/\fs.lookup ("runner":Str)=U_))(_:((s.run=U_/\∃z,s.mb= .str z/\∀H' s',Gw g s.run H H'->lY C CM H' g s'->L6 H g d {s with ra:= [.tup [.tup [.str "rule",.str z],d]]} s'->Q .non H')∨∃mc r u q,s.run=u_ (mc,r)/\mc.own=g.n/\ya mc.rs/\Ih mc.rs r/\r.th= .tup [.str "asks",.tup [.str u,q]]/\BL u d=v_/\∀H',Gw g s.run H H'->lY C CM H' g (oF {s with run:=u_ (mc,mo mc.rs mc.own r d)} (mo mc.rs mc.own r d))->Q .non H'))
def AcE {g:Gc}{s:Gs}{mc:Mc}{r r':Rn}(h:lY C CM H g s)(U:s.run=u_ (mc,r))(v:Mv mc H H')(Z:yS CM H' mc r'):lY C CM H' g {s with run:=u_ (mc,r')}:=by
 erw[h,dx,fs,mv,av,rv,ev,e,f,i,j,k,l];rw[U] at k;erw[k,rfl,hn,hm];erw[id hm,dm,fm,aa,ru,tv,gv,em,ac,i1,i2,i3,O,i5,i6];have n1:g.x≠mc.db:=(Yr.ne e i3).symm;have n2:g.x≠mc.dg:=λz=>by rw[<-z,e] at O;cases O
 exact⟨dx,fs,mv,av,_,ev,v.kept _ _ e hn.symm n1 n2,f,i.mono v.tk,j.mono v.tk,[1:hn:Z],l.mono v.tk⟩
def Li:#[C,10,a.ZE,a.Zy,["self","answer"],(XC a.qL a.qo a.qq)]:=by
 have jw:=#[AZ,T,C];have JL:=#[DM,T];have Yg:=#[Mr,T,C];exists 9,T.iZ,Ky
 erw[h,U,st,v,d,rfl,hG,hn,hv,am,[ao,ap,ho,aq],h];have hs:=uI;erw[id hG,dx,fs,mv,av,rv,ev,e,f,i,j,hR,l];exists 3,%[|#[qI,#[qm,yI,#[qO,5,pv 0,rfl],qT],%[#[Qm,#[qB,#v[#[qB,#v[#[qB,#v[ql,#[qO,5,pv 0,rfl]]],pv 1]]]]]|#[Qd,#[Qf,pv 0,T.qQ,T.lG,jw,#v[pv 1]]]],%[#[Qd,#[Qf,#[qO,5,pv 0,rfl],T.qt,T.iM,Yg,#v[pv 1]]]|#[Qd,#[QR,pv 0,T.qQ,T.lU,JL]]]]]
 exists 0,U.x,_,dx,fs,0,e,T.qQ,T.qX,f.Qx,1,0;rcases h with⟨O,z,hz,k⟩|⟨mc,r,u,q,O,au,ad,ae,af,Z,k⟩
 ·rw[O] at hR;cases(show rv= .non from hR)
  refine ld (A6 rfl) ?_;rw[hz] at i;obtain⟨rfl,hl⟩:=(show mv= .str z/\↑z<=V9 from i)
  have aw:↑fs<1000:=by have:=f.len;omega
  exists 0,U.x,_,dx,fs,0,e,T.qQ,T.yE,f.YR,(sml rfl),λt1 ag=>?_;have m1:=qf ag (.tup [V.str "rule",V.str z]);have k1:Is (upd H t1 (.tup [V.str "rule",V.str z])) (.tup [.str "rule",.str z]) (.ref t1):=Is.new ⟨_,0,Yb (),_,0,[1:hl],1⟩ ag
  exists 0,(sml rfl),λt2 ah=>?_;have m2:=qf ah (.tup [V.ref t1,v]);have k2:=Is.new (ds:= [.tup [.str "rule",.str z],d]) ⟨_,0,k1,_,0,hv.mono m1.tk,1⟩ ah
  exists (sml rfl),λt3 ak=>?_;have m3:=qf ak (.tup [V.ref t2]);have k3:=Is.new (ds:= [.tup [.tup [.str "rule",.str z],d]]) ⟨_,0,k2,1⟩ ak;have s3:=(m1.trans m2).trans m3
  exists 0,U.x,_,dx,fs,1,s3 _ _ e,T.qQ,T.yO,aw;have iz:Is H (.str z) (.str z):=[1:hl];obtain⟨p1,p2⟩:=kP (C:=a.qL) (CM:=a.qo) (g:=U) (s:={st with ra:= [.tup [.tup [.str "rule",.str z],d]]}) (s3 _ _ e) (f.set_rule_asks (u:= .ref t3)) (by show Is _ st.mb _;rw[hz];exact iz.mono s3.tk) k3 (by show Ws _ _ _ _ st.run;rw[O];rfl) (l.mono s3.tk)
  erw[id p1,aa,ac,_,_,_,_,e3,f3,_];have al:=s3.tk.trans p2.tk
  exists 0,U.x,aa,ac,1,e3,f3.meth _ (),0,U,_,v,d,1,p1,O,hn,hv.mono al,⟨ao,ap,p2.kept _ _ (s3 _ _ ho) am,aq⟩,λH4 s4 v4 G4 b4=>k H4 s4 [λb ob h n _=>v4.kept b ob (p2.kept b ob (s3 b ob h) n) n:al.trans v4.tk] G4 ⟨b4.mb,b4.ra,b4.lack,b4.rule,λrs h=>?_⟩
  erw[b4.go rs h,mc,c1,c2,c3,c4];have fr:∀b,upd (upd (upd (upd H t1 (.tup [V.str "rule",V.str z])) t2 (.tup [V.ref t1,v])) t3 (.tup [V.ref t2])) U.x (.ins a.qL dx (iF "rule_asks" (.ref t3) fs)) b=U_->H b=none:=λb hb=>by
   cases hc:H b with
   |none=>rfl
   |some ob=>
    by_cases c:b=U.x
    ·rw[c,qg] at hb;cases hb
    ·rw[p2.kept b ob (s3 b ob hc) c] at hb;cases hb
  exact⟨mc,fr _ c1,fr _ c2,fr _ c3,c4⟩
 ·rw[O] at hR;erw[hR,rfl,aA,hM];erw[id hM,dm,fm,aB,ru,tv,gv,em,ax,i1,i2,i3,i4,i5,i6];refine iL (ue (λz=>by cases z)) ?_
  have ay:↑mc.own<=100:=by rw[au];have:=wL hn;omega
  exists 0,U.x,_,dx,fs,0,e,T.qQ,T.qX,f.Qx,mc.x,dm,fm,1,em,ax.meth _ (),0,mc,r,v,u,q,d,1,hM,ae,af,hv,ad,ay,Z,λH1 v1 M1=>?_
  ·have G1:=AcE hG O v1 M1;erw[id G1,aa,ac,_,_,_,_,e3,f3,_];have hok:=At (own:=mc.own) ad ae (by rw[af];show decide (("asks":Str)="asks")=v_;exact A6 rfl) (Au Z)
   exists 5
   refine⟨0,U.x,aa,ac,1,e3,f3.meth _ (),U,_,mc,0,G1,1,.inr hok.two,λH2 v2 G2=>k H2 [λb ob h n1 n2=>v2.kept b ob (v1.kept b ob h (n2 mc r O).1 (n2 mc r O).2.1 (n2 mc r O).2.2) n1:v1.tk.trans v2.tk] G2⟩
nonrec def gfs (n:Str)(o t:o3):oj (Str×V):= [("name",.str n),("order",.ref o),("made_by",.non),("rule_asks",.ref t),("rule_run",.non),("end",.non)]
def Ez (n:Str)(o t:o3):GFl (gfs n o t) (.str n) (.ref o) .non (.ref t) .non .non:=by
 exists 1,1,1,1,1,1,?_,(by show 6<=20;decide)
 intro m hm;simp![GMT,uG,uH,uS] at hm;rcases hm with rfl|rfl|rfl|rfl|rfl<;>rfl
nonrec def s0G:Gs:=⟨.non,[],U_,.non⟩
inductive II (C CM CO:Addr):Sp
 |mk (x dx o:Addr)(n k:Str)(sv:V)(e:D)(_:vs= [.ref x,.str n,sv,.ref o])(_:H x=u_ (.ins C dx []))(_:Is H (.tup [.str k,e]) sv)(_:nm n=v_)(_:o≠x)(_:(∃dx fs,H o=u_ (.ins CO dx fs)/\fs.lookup ("runner":Str)=U_))(_:∀H' s',(∀b ob,H b=u_ ob->b≠x->H' b=u_ ob)->Tk H H'->lY C CM H' ⟨x,o,n⟩ s'->(k="made"->s'={s0G with mb:=e})->(k≠"made"->L6 H ⟨x,o,n⟩ e s0G s')->Q .non H')
def Sm {x:o3}{fs:oj (Str×V)}{P:Hp->Prop}(e:H x=u_ (.ins C dx fs))(h:∀H1,H1 x=u_ (.ins C dx fs')->(∀b ob,H b=u_ ob->b≠x->H1 b=u_ ob)->Tk H H1->P H1):P (upd H x (.ins C dx fs')):=h _ qg (λb ob h n=>by rwa[qj n]) (Tk.updI e)
def Lj:#[C,10,a.Jg,a.ZD,["self","name","source","order"],(II a.qL a.qo a.qq)]:=by
 have jw:=#[AZ,T,C];exists 9,T.my,Kn
 erw[h,x,dx,o,n,k,sv,d,rfl,hx,aa,hn,nox,[ac,ad,ho,ae],q];have hs:=uI;exists 3,%[#[Qm,pv 1],#[Qm,pv 3],#[Qm,qT],#[Qm,#[qB,qd]],#[Qm,qT],#[Qm,qT]|#[qI,#[qm,Qr,#[qF,qz,pv 2,qh],ql],%[|#[Qm,#[qF,qz,pv 2,qh]]],%[|#[Qd,#[Qf,pv 0,T.qQ,T.lG,jw,#v[#[qF,qz,pv 2,qh]]]]]]]
 exists 0,0,x,_,dx,0,hx,T.qQ,T.y9,()
 refine Sm (P:=nh _ _ _ _) hx λH1 x1 k1 t1=>?_
 exists 5
 refine⟨0,0,x,_,dx,0,x1,T.qQ,T.XN,by show 1<1000;decide,?_⟩
 refine Sm (P:=nh _ _ _ _) x1 λH2 x2 k2 t2=>?_
 exists 5
 refine⟨0,x,_,dx,0,x2,T.qQ,T.yE,by show 2<1000;decide,?_⟩
 refine Sm (P:=nh _ _ _ _) x2 λH3 x3 k3 t3=>?_
 exists sml rfl,λt ht=>?_;have nxt:=(qk x3 ht).symm;have s4:=qf ht (.tup ([]:oj V))
 exists 5
 refine⟨0,x,_,dx,0,s4 _ _ x3,T.qQ,T.yO,by show 3<1000;decide,?_⟩
 refine Sm (P:=nh _ _ _ _) (s4 _ _ x3) λH5 x5 k5 t5=>?_
 exists 5
 refine⟨0,x,_,dx,0,x5,T.qQ,T.qX,by show 4<1000;decide,?_⟩
 refine Sm (P:=nh _ _ _ _) x5 λH6 x6 k6 t6=>?_
 exists 5
 refine⟨0,x,_,dx,0,x6,T.qQ,T.Q4,by show 5<1000;decide,?_⟩
 refine Sm (P:=λH=>_) x6 λZ O k7 t7=>?_;have kp:∀b ob,H b=u_ ob->b≠x->Z b=u_ ob:=λb ob h nb=>k7 b ob (k6 b ob (k5 b ob (s4 b ob (k3 b ob (k2 b ob (k1 b ob h nb) nb) nb)) nb) nb) nb;have U:=(((((t1.trans t2).trans t3).trans s4.tk).trans t5).trans t6).trans t7;have O:Z x=u_ (.ins a.qL dx (gfs n o t)):=O;have eT:Z t=u_ (.tup ([]:oj V)):=k7 _ _ (k6 _ _ (k5 _ _ qg nxt) nxt) nxt;have i0:Is Z (.tup []) (.ref t):=⟨t,[],1,eT,1⟩;have G0:lY a.qL a.qo Z ⟨x,o,n⟩ s0G:=⟨dx,_,_,_,_,_,O,Ez n o t,1,i0,1,1⟩;have af:=aa.mono U;erw[af,p,ws,rfl,hp,w1,r1,rfl,[rfl,ag],w2,r2,rfl,h2,h3];cases(show r2= [] from h3)
 exists 0,p,_,_,0,1,SqT.of hp,1,1,0;by_cases ck:k="made"
 ·refine ld (A6 (by rw[ck])) ⟨0,p,_,_,0,1,SqT.of hp,1,0,x,_,dx,0,O,T.qQ,T.yE,(by show 6<1000;decide),?_⟩
  erw[kP (C:=a.qL) (CM:=a.qo) (g:=[x:o:n]) (s:={s0G with mb:=d}) O ((Ez n o t).set_made_by (u:=w2)) h2 i0 rfl rfl,p1,p2]
  exact q _ _ (λb ob h nb=>p2.kept b ob (kp b ob h nb) nb) (U.trans p2.tk) p1 (λ_=>rfl) λz=>A7 ck z
 ·refine iL (ue (λz=>ck (V.str.inj z))) ?_
  exists 0,x,dx,0,O,(Ez n o t).meth _ (),0,p,_,_,0,1,SqT.of hp,1,[x:o:n],s0G,w2,d,1,G0,1,hn,h2,⟨ac,ad,kp _ _ ho nox,ae⟩,λH8 s8 v8 G8 b8=>q H8 s8 (λb ob h nb=>v8.kept b ob (kp b ob h nb) nb) (U.trans v8.tk) G8 (λz=>A7 z ck) λ_=>⟨b8.mb,b8.ra,b8.lack,b8.rule,λrs h=>?_⟩
  erw[b8.go rs h,mc,c1,c2,c3,c4];have fr:∀b,Z b=U_->H b=none:=λb hb=>by
   cases hc:H b with
   |none=>rfl
   |some ob=>
    by_cases c:b=x
    ·rw[c,O] at hb;cases hb
    ·rw[kp b ob hc c] at hb;cases hb
  exact⟨mc,fr _ c1,fr _ c2,fr _ c3,c4⟩
nonrec def XB:D->D
 | .non=> .tup [.str "lack"]
 | .tup [.str k,e]=>if k="leaf" then .tup [.str "value",e] else .non
 |_=> .non
nonrec def qU:D->D
 | .tup [.str k,e]=>if k="said" then .tup [.str "value",e] else .tup [.str k,e]
 |d=>d
inductive Nz:Sp
 |mk (v:V)(d:D)(_:vs= [v])(_:Is H d v)(_:(d= .non∨∃k e,d= .tup [.str k,e]))(_:∀u H',ia H H'->Is H' (XB d) u->Q u H')
inductive IQ:Sp
 |mk (v:V)(k:Str)(e:D)(_:vs= [v])(_:Is H (.tup [.str k,e]) v)(_:∀u H',ia H H'->Is H' (qU (.tup [.str k,e])) u->Q u H')
def Lq:#[T,1,a.Wn,a.Wc,["end"],IQ]:=by
 exists 9,T.mL,nS
 erw[h,v,k,e,rfl,U,q];have hs:=uI;have O:=U;erw[U,p,ws,rfl,Z,w1,r1,rfl,[rfl,aa],w2,r2,rfl,h2,h3];cases(show r2= [] from h3)
 exists 3,%[|#[qp,#[Q6,#[qm,Qr,#[qF,qz,pv 0,qh],ql],#[qB,#v[ql,#[qF,qz,pv 0,qh]]],pv 0]]]
 exists 0,p,_,_,0,1,SqT.of Z,1,1,0;by_cases c:k="said"
 ·refine ld (A6 (by rw[c])) ⟨0,p,_,_,0,1,SqT.of Z,1,(sml rfl),λt ht=>?_⟩
  refine q _ _ (qf ht _) ?_;unfold qU
  try dsimp only
  rw[A3 c];exact Is.new ⟨_,0,Yb (),_,0,h2,1⟩ ht
 ·refine iL (ue (λz=>c (V.str.inj z))) [0:q _ H (ia.refl _) ?_];unfold qU
  try dsimp only
  rw[A2 c];exact O
def OG:#[T,1,a.jT,a.j0,["source"],Nz]:=by
 exists 9,T.lJ,Zb
 erw[h,v,d,rfl,U,hd,q];have hs:=uI;exists 3,%[#[qI,#[qm,yI,pv 0,qT],%[|#[qp,#[qB,#v[ql]]]],qr]|#[qp,#[Q6,#[qm,Qr,#[qF,qz,pv 0,qh],ql],#[qB,#v[ql,#[qF,qz,pv 0,qh]]],qT]]]
 exists 0,1,0;rcases hd with rfl|⟨k,e,rfl⟩
 ·cases(show v= .non from U)
  refine ld (A6 rfl) [(sml rfl):λt O=>?_];exact q _ _ (qf O _) (Is.new ⟨_,0,Yb (),1⟩ O)
 ·erw[U,p,ws,rfl,Z,w1,r1,rfl,[rfl,aa],w2,r2,rfl,h2,h3];cases(show r2= [] from h3)
  refine iL (ue (λz=>by cases z)) ?_
  exists 0,p,_,_,0,1,SqT.of Z,1,1,0;by_cases c:k="leaf"
  ·refine ld (A6 (by rw[c])) ⟨0,p,_,_,0,1,SqT.of Z,1,(sml rfl),λt O=>?_⟩
   refine q _ _ (qf O _) ?_;unfold XB
   try dsimp only
   rw[A3 c];exact Is.new ⟨_,0,Yb (),_,0,h2,1⟩ O
  ·refine iL (ue (λz=>c (V.str.inj z))) (q _ H (ia.refl _) ?_);unfold XB
   try dsimp only
   rw[A2 c];exact(rfl:V.non=V.non)
end
structure Sy where
 G:Type
 fin:G->Bool
 want:G->om Str
 own:G->G
 tk:G->om D->G
 stuck:G->Str->G
 said:G->om D
 g0:Str->om G
 once:Str->om D
 lft:G->Nat
 M:Nat
 ns:oj Str
structure Sy.Ok (Y:Sy):Prop where
 fs:∀g m,Y.fin (Y.stuck g m)=v_
 ss:∀g m,Y.said (Y.stuck g m)=U_
 sf:∀g v,Y.said g=u_ v->Y.fin g=v_
 lo:∀g,Y.fin g=V6->Y.want g=U_->Y.lft (Y.own g)<Y.lft g
 lt:∀g m a,Y.fin g=V6->Y.want g=u_ m->Y.lft (Y.tk g a)<Y.lft g
 lk:∀g m,Y.fin g=V6->Y.lft (Y.stuck g m)<Y.lft g
 l0:∀m g,Y.g0 m=u_ g->Y.lft g<=Y.M
 gn:∀m g,Y.g0 m=u_ g->m∈Y.ns
namespace Sy
variable {Y:Sy}
noncomputable abbrev Orc:=Str->om (om D)
nonrec def step (Y:Sy)(f:Orc)(g:Y.G):Y.G:=if Y.fin g=v_ then g else match Y.want g with
 |none=>Y.own g
 |some m=>match f m with
  |some a=>Y.tk g a
  |none=>Y.stuck g m
nonrec def it (Y:Sy)(f:Orc):Nat->Y.G->Y.G
 |0,g=>g
 |k+1,g=>it Y f k (step Y f g)
def ZV {f:Orc}{g:Y.G}(h:Y.fin g=v_):step Y f g=g:=by unfold step;rw[A3 h]
def XS {f:Orc}{g:Y.G}(h:Y.fin g=v_):∀k,it Y f k g=g
 |0=>rfl
 |k+1=>by show it Y f k (step Y f g)=g;rw[ZV h];exact XS h k
def ZH {f:Orc}:∀(k j:Nat) (g:Y.G),it Y f (k+j) g=it Y f j (it Y f k g)
 |0,j,g=>by rw[TF];rfl
 |k+1,j,g=>by
  rw[Nat.add_right_comm];show it Y f (k+j) (step Y f g)=_;rw[ZH k j]
  rfl
def wZ {f:Orc}(k:Nat)(g:Y.G):it Y f (k+1) g=step Y f (it Y f k g):=ZH k 1 g
def AF (h:Y.Ok){f:Orc}{g:Y.G}(O:Y.fin g=V6):Y.lft (step Y f g)<Y.lft g:=by
 unfold step;rw[O,A2 uc];cases U:Y.want g with
 |none=>exact h.lo g O U
 |some m=>
  show Y.lft (match f m with|some a=>Y.tk g a|none=>Y.stuck g m)<_
  cases f m with
  |some a=>exact h.lt g m a O U
  |none=>exact h.lk g m O
def it_end (h:Y.Ok){f:Orc}:∀(k:Nat) (g:Y.G),Y.lft g<=k->Y.fin (it Y f k g)=v_
 |0,g,hl=>by
  show Y.fin g=v_;cases O:Y.fin g with
  |true=>rfl
  |false=>have:=AF (f:=f) h O;omega
 |k+1,g,hl=>by
  show Y.fin (it Y f k (step Y f g))=v_;cases O:Y.fin g with
  |true=>rw[ZV O,XS O];exact O
  |false=>exact it_end h k _ (by have:=AF (f:=f) h O;omega)
variable {j:Nat}
def MD {f:Orc}{g:Y.G}{k:Nat}(O:Y.fin (it Y f k g)=v_)(U:Y.fin (it Y f j g)=v_):it Y f k g=it Y f j g:=by
 rcases tG k j with h|h
 ·erw[UV h,d,rfl];rw[ZH,XS O]
 ·erw[UV h,d,rfl];rw[ZH,XS U]
def wd (h:Y.Ok){f f':Orc}(hm:∀m a,f m=u_ a->f' m=u_ a):∀(k:Nat) (g:Y.G),it Y f' k g=it Y f k g∨((∀j,it Y f j (it Y f k g)=it Y f k g)/\Y.said (it Y f k g)=U_)
 |0,g=> .inl rfl
 |k+1,g=>by
  show it Y f' k (step Y f' g)=it Y f k (step Y f g)∨_;by_cases c:step Y f' g=step Y f g
  ·rw[c];exact wd h hm k _
  ·right;have U:Y.fin g=false:=by
    cases U:Y.fin g with
    |false=>rfl
    |true=>exact A7 (by rw[ZV U,ZV U]) c
   have e:∃m,step Y f g=Y.stuck g m:=by
    unfold step at c⊢;rw[U,A2 uc] at c⊢;rw[A2 uc] at c;cases Z:Y.want g with
    |none=>rw[Z] at c;exact A7 rfl c
    |some m=>
     rw[Z] at c;simp only at c⊢;cases O:f m with
     |none=>exact[m:1]
     |some a=>rw[O,hm m a O] at c;exact A7 rfl c
   erw[e,m,e];have e2:it Y f (k+1) g=Y.stuck g m:=by
    show it Y f k (step Y f g)=_;rw[e];exact XS (h.fs g m) k
   rw[e2];exact[XS (h.fs g m):h.ss g m]
def sZ (h:Y.Ok){f f':Orc}(hm:∀m a,f m=u_ a->f' m=u_ a){k:Nat}{g:Y.G}{v:D}(O:Y.said (it Y f k g)=u_ v):it Y f' k g=it Y f k g:=by
 rcases wd h hm k g with e|⟨_,e⟩
 ·exact e
 ·rw[O] at e;cases e
nonrec def Fh (Y:Sy):Nat->Orc
 |0,m=>match Y.g0 m with
  |none=>u_ (Y.once m)
  |some _=>U_
 |h+1,m=>match Y.g0 m with
  |none=>u_ (Y.once m)
  |some g=>(Y.said (it Y (Fh Y h) Y.M g)).map u_
variable {m:Str}
def zX (h:Y.g0 m=U_):∀k,Fh Y k m=u_ (Y.once m)
 |0=>by simp![Fh,h]
 |k+1=>by simp![Fh,h]
def ka {g:Y.G}(h:Y.g0 m=u_ g)(k:Nat):Fh Y (k+1) m=(Y.said (it Y (Fh Y k) Y.M g)).map some:=by simp![Fh,h]
def wV {g:Y.G}(h:Y.g0 m=u_ g):Fh Y 0 m=none:=by simp![Fh,h]
def Ik (h:Y.Ok):∀(k:Nat) (m:Str) (a:om D),Fh Y k m=u_ a->Fh Y (k+1) m=u_ a
 |0,m,a,e=>by
  cases O:Y.g0 m with
  |none=>rw[zX O] at e⊢;exact e
  |some g=>rw[wV O] at e;cases e
 |k+1,m,a,e=>by
  cases O:Y.g0 m with
  |none=>rw[zX O] at e⊢;exact e
  |some g=>
   rw[ka O] at e⊢;cases U:Y.said (it Y (Fh Y k) Y.M g) with
   |none=>rw[U] at e;cases e
   |some v=>
    rw[sZ h (Ik h k) U];exact e
def Sb (h:Y.Ok){k:Nat}(O:k<=j){a:om D}(e:Fh Y k m=u_ a):Fh Y j m=u_ a:=by
 erw[UV O,d,rfl]
 induction d with
 |zero=>exact e
 |succ d U=>exact Ik h _ _ _ (U ())
open Classical in
nonrec def F (Y:Sy):Orc:=λm=>if h:∃a k,Fh Y k m=u_ a then u_ (choose h) else U_
def F_iff (h:Y.Ok){a:om D}:F Y m=u_ a↔∃k,Fh Y k m=u_ a:=by
 unfold F;constructor
 ·intro e;by_cases c:∃a k,Fh Y k m=u_ a
  ·rw[dif_pos c] at e;have:=F_ c;rwa[uN e] at this
  ·rw[dif_neg c] at e;cases e
 ·rintro⟨k,e⟩;have c:∃a k,Fh Y k m=u_ a:=[a:k:e];rw[dif_pos c];erw[F_ c,j,U];have Z:=Sb h (Nat.le_max_left k j) e;have O:=Sb h (Nat.le_max_right k j) U;rw[Z] at O;exact O.symm
def Sq (h:Y.Ok){k:Nat}{a:om D}(e:Fh Y k m=u_ a):F Y m=u_ a:=(F_iff h).mpr [k:e]
def X9 (h:Y.Ok)(O:Y.g0 m=U_):F Y m=u_ (Y.once m):=Sq h (zX O 0)
def CK (h:Y.Ok)(g:Y.G):∃k,∀j,k<=j->step Y (Fh Y j) g=step Y (F Y) g:=by
 unfold step;by_cases U:Y.fin g=v_
 ·exact⟨(0),λj _=>by rw[A3 U,A3 U]⟩
 ·cases hw:Y.want g with
  |none=>exact[(0):λj _=>rfl]
  |some m=>
   cases O:F Y m with
   |some a=>
    erw[(F_iff h).mp O,k,e];exact⟨k,λj Z=>by simp![Sb h Z e,O]⟩
   |none=>
    exists (0),λj _=>?_;have:Fh Y j m=none:=by
     cases e:Fh Y j m with
     |none=>rfl
     |some a=>rw[Sq h e] at O;cases O
    simp![this,O]
def Ei (h:Y.Ok):∀(n:Nat) (g:Y.G),∃k,∀j,k<=j->it Y (Fh Y j) n g=it Y (F Y) n g
 |0,g=>[(0):λ_ _=>rfl]
 |n+1,g=>by
  erw[CK h g,k1,h1];erw[Ei h n (step Y (F Y) g),k2,h2];exists max k1 k2,λj O=>?_;show it Y (Fh Y j) n (step Y (Fh Y j) g)=it Y (F Y) n (step Y (F Y) g);rw[h1 j (),h2 j ()]
def F_run (h:Y.Ok){g:Y.G}(U:Y.g0 m=u_ g):F Y m=(Y.said (it Y (F Y) Y.M g)).map some:=by
 cases Z:Y.said (it Y (F Y) Y.M g) with
 |some v=>
  erw[Ei h Y.M g,k,e];refine Sq h (k:=k+1) ?_;rw[ka U,e k (uq _),Z]
  rfl
 |none=>
  show F Y m=U_;cases e:F Y m with
  |none=>rfl
  |some a=>
   erw[(F_iff h).mp e,k,e];cases k with
   |zero=>rw[wV U] at e;cases e
   |succ k=>
    rw[ka U] at e;cases O:Y.said (it Y (Fh Y k) Y.M g) with
    |none=>rw[O] at e;cases e
    |some v=>
     rw[<-sZ h (λm a q=>Sq h q) O,Z] at O;cases O
nonrec def Wt (Y:Sy)(n m:Str):Prop:=∃g k,Y.g0 n=u_ g/\Y.fin (it Y (F Y) k g)=V6/\Y.want (it Y (F Y) k g)=u_ m
def Cr (h:Y.Ok){n:Str}(w:Wt Y n m){k:Nat}{a:om D}(e:Fh Y k n=u_ a):∃j b,j<k/\Fh Y j m=u_ b:=by
 erw[w,g,i,hg,hf,hw];cases k with
 |zero=>rw[wV hg] at e;cases e
 |succ k=>
  exists k;rw[ka hg] at e;cases U:Y.said (it Y (Fh Y k) Y.M g) with
  |none=>rw[U] at e;cases e
  |some v=>
   have O:=h.sf _ _ U;have eM:=sZ h (f':=F Y) (λm a q=>Sq h q) U;rcases wd h (f:=Fh Y k) (f':=F Y) (λm a q=>Sq h q) i g with ei|⟨ei,es⟩
   ·rw[ei] at hf hw;cases hm:Fh Y k m with
    |some b=>exact[b:UZ k:1]
    |none=>
     have e1:it Y (Fh Y k) (i+1) g=Y.stuck (it Y (Fh Y k) i g) m:=by
      rw[wZ];unfold step;rw[hf,A2 uc,hw];simp![hm]
     have e2:Y.fin (it Y (Fh Y k) (i+1) g)=true:=by rw[e1];exact h.fs _ _
     rw[<-MD e2 O,e1,h.ss] at U;cases U
   ·have Z:it Y (Fh Y k) (i+Y.M) g=it Y (Fh Y k) i g:=by rw[ZH];exact ei _
    have e3:it Y (Fh Y k) (Y.M+i) g=it Y (Fh Y k) Y.M g:=by rw[ZH];exact XS O i
    rw[<-e3,Nat.add_comm,Z,es] at U;cases U
inductive Wts (Y:Sy):Str->Str->Prop
 |one {n m:Str}:Wt Y n m->Wts Y n m
 |more {n m l:Str}:Wts Y n m->Wt Y m l->Wts Y n l
def Io (h:Y.Ok){n:Str}(w:Wts Y n m):∀{k:Nat}{a:om D},Fh Y k n=u_ a->∃j b,j<k/\Fh Y j m=u_ b:=by
 induction w with
 |one w=>exact λe=>Cr h w e
 |more _ w O=>
  intro k a e;erw[O e,j,b,hj,U];erw[Cr h w U,i,c,hi,Z];exact⟨i,c,(),Z⟩
def XD (h:Y.Ok){n:Str}(w:Wts Y n n):F Y n=none:=by
 have O:∀k a,Fh Y k n≠u_ a:=by
  intro k
  induction k using Nat.strongRecOn with
  |_ k U=>
   intro a e;erw[Io h w e,j,b,Z,e1];exact U j Z b e1
 cases e:F Y n with
 |none=>rfl
 |some a=>
  erw[(F_iff h).mp e,k,e];exact A7 e (O k a)
structure Ss (Y:Sy) where
 stk:oj (Str×Y.G)
 don:oj (Str×Y.G)
nonrec def Yd (l:oj (Str×Y.G))(m:Str):om Y.G:=(l.find? λp=>decide (p.1=m)).map (·.2)
nonrec def yet (S:Ss Y)(m:Str):om (om (om D)):=if m∈S.stk.map (·.1) then u_ U_ else match Y.g0 m with
 |none=>u_ (u_ (Y.once m))
 |some _=>(Yd S.don m).map λg=>(Y.said g).map u_
nonrec def nxt (S:Ss Y):Ss Y:=match S.stk with
 | []=>S
 |(n,g)::r=>if Y.fin g=v_ then[r:S.don++ [(n,g)]] else match Y.want g with
  |none=>[(n,Y.own g)::r:S.don]
  |some m=>match yet S m with
   |some (u_ a)=>[(n,Y.tk g a)::r:S.don]
   |some U_=>[(n,Y.stuck g m)::r:S.don]
   |none=>match Y.g0 m with
    |some g'=>[(m,g')::(n,g)::r:S.don]
    |none=>S
nonrec def nx (S:Ss Y):Nat->Ss Y
 |0=>S
 |k+1=>nxt (nx S k)
nonrec def rest (S:Ss Y):oj Str:=Y.ns.filter λm=>decide (m∉S.stk.map (·.1))&&decide (m∉S.don.map (·.1))
nonrec def lfts:oj (Str×Y.G)->Nat
 | []=>0
 |(_,g)::r=>Y.lft g+1+lfts r
nonrec def mu (S:Ss Y):Nat:=lfts S.stk+(Y.M+2)*↑(rest S)
variable {S:Ss Y}
def jH (h:yet S m=U_):m∉S.stk.map (·.1)/\(∃g,Y.g0 m=u_ g)/\m∉S.don.map (·.1):=by
 unfold yet at h;by_cases c:m∈S.stk.map (·.1)
 ·rw[A3 c] at h;cases h
 ·rw[A2 c] at h;cases O:Y.g0 m with
  |none=>rw[O] at h;cases h
  |some g=>
   rw[O] at h;simp![tX] at h;exists c,[g:1],λhm=>?_;erw[Ac.mp hm,p,U,rfl];have h3:(S.don.find? λq=>decide (q.1=p.1))=none:=by simpa [Yd] using h
   rw[Ul] at h3;exact h3 p U (by simp)
variable {l:oj Str}
def kQ {p q:Str->Bool}(Z:m∈l)(hp:p m=v_)(hq:q m=V6)(O:∀x,q x=v_->p x=v_):↑(l.filter q)<↑(l.filter p):=by
 induction l with
 |nil=>cases Z
 |cons x r U=>
  have le:↑(r.filter q)<=↑(r.filter p):=by
   clear U Z
   induction r with
   |nil=>exact uq _
   |cons y r U=>
    rw[vO,vO];cases h1:q y with
    |true=>rw[O y h1,A3 rfl,A3 rfl];simp![uu];omega
    |false=>
     rw[A2 uc];split
     ·simp![uu];omega
     ·exact U
  rw[vO,vO];rcases A9.mp Z with rfl|hm
  ·rw[hp,hq,A3 rfl,A2 uc,uu];omega
  ·have:=U hm;cases h1:q x with
   |true=>rw[O x h1,A3 rfl,A3 rfl];simp![uu];omega
   |false=>
    rw[A2 uc];split
    ·simp![uu];omega
    ·exact this
def nxt_mu (h:Y.Ok)(hs:S.stk≠ []):mu (nxt S)<mu S:=by
 erw[S,stk,don];cases stk with
 |nil=>exact A7 rfl hs
 |cons p r=>
  erw[p,n,g];have same:∀g',Y.lft g'<Y.lft g->mu (⟨(n,g')::r,don⟩:Ss Y)<mu ⟨(n,g)::r,don⟩:=by
   intro g' hl;show Y.lft g'+1+lfts r+(Y.M+2)*_<Y.lft g+1+lfts r+(Y.M+2)*_;have e:rest (⟨(n,g')::r,don⟩:Ss Y)=rest ⟨(n,g)::r,don⟩:=rfl;rw[e];omega
  unfold nxt;simp only;cases O:Y.fin g with
  |true=>
   rw[A3 rfl];show lfts r+(Y.M+2)*_<Y.lft g+1+lfts r+(Y.M+2)*_;have e:rest (⟨r,don++ [(n,g)]⟩:Ss Y)=rest ⟨(n,g)::r,don⟩:=by
    unfold rest
    congr 1
    funext x
    simp![uD,uC,U7,Ab,uG,uH,uS,<-Bool.decide_and];rw[vc];constructor
    ·rintro⟨a,b⟩;exact[λz=>z.elim (λz=>b (.inr z)) a:λz=>b (.inl z)]
    ·rintro⟨a,b⟩;exact[λz=>a (.inr z):λz=>z.elim b λz=>a (.inl z)]
   rw[e];omega
  |false=>
   rw[A2 uc];cases hw:Y.want g with
   |none=>exact same _ (h.lo g O hw)
   |some m=>
    simp only;cases hy:yet ([(n,g)::r:don]:Ss Y) m with
    |some o=>
     cases o with
     |some a=>exact same _ (h.lt g m a O hw)
     |none=>exact same _ (h.lk g m O)
    |none=>
     simp only;erw[jH hy,h1,[g',U],h2];rw[U];show Y.lft g'+1+(Y.lft g+1+lfts r)+(Y.M+2)*↑(rest ([(m,g')::(n,g)::r:don]:Ss Y))<Y.lft g+1+lfts r+(Y.M+2)*↑(rest ([(n,g)::r:don]:Ss Y));have e:↑(rest (⟨(m,g')::(n,g)::r,don⟩:Ss Y))<↑(rest (⟨(n,g)::r,don⟩:Ss Y)):=by
      refine kQ (m:=m) (h.gn m g' U) ?_ ?_ ?_
      ·simp![uF,ve];exact[h1:h2]
      ·simp
      ·intro x Z;simp![uF,ve] at Z⊢;exact[λz=>Z.1 (ui _ z):Z.2]
     have l0:=h.l0 m g' U;have e2:=Nat.mul_le_mul_left (Y.M+2) (Nat.succ_le_of_lt e);rw[Nat.mul_succ] at e2;omega
nonrec def Chn (Y:Sy):oj (Str×Y.G)->Prop
 | []=>True
 |(n,g)::r=>(∃s k,Y.g0 n=u_ s/\g=it Y (F Y) k s)/\Chn Y r/\∀p r',r=p::r'->Y.fin p.2=V6/\Y.want p.2=u_ n
structure SOk (n0:Str)(S:Ss Y):Prop where
 chn:Chn Y S.stk
 nd:(S.stk.map (·.1)++S.don.map (·.1)).Nodup
 don:∀p∈S.don,∃s,Y.g0 p.1=u_ s/\p.2=it Y (F Y) Y.M s
 bot:(S.stk.map (·.1)).getLast? =u_ n0∨S.stk= []/\(S.don.map (·.1)).getLast? =u_ n0
def E4 {n:Str}{g:Y.G}:∀{r:oj (Str×Y.G)}{m:Str},Chn Y ((n,g)::r)->m∈r.map (·.1)->Wts Y m n:=by
 intro r
 induction r generalizing n g with
 |nil=>intro m _ h;cases h
 |cons p r ih=>
  intro m hc hm;erw[p,O,g'];erw[hc,_,U,c3];erw[c3 (O,g') r rfl,f1,w1];erw[U.1,s,k,hs,Z];have w:Wt Y O n:=⟨s,k,hs,by rwa[<-Z],by rwa[<-Z]⟩
  rcases A9.mp hm with rfl|hm
  ·exact .one w
  ·exact .more (ih U hm) w
def Xx {l:oj (Str×Y.G)}{g:Y.G}(h:Yd l m=u_ g):(m,g)∈l:=by
 unfold Yd at h;cases e:l.find? λp=>decide (p.1=m) with
 |none=>rw[e] at h;cases h
 |some p=>
  rw[e] at h;cases uN h;have:=HN e;have hm:p.1=m:=uw this;rw[<-hm];exact vZ e
variable {n0:Str}
def AaM (h:Y.Ok)(hs:SOk n0 S):SOk n0 (nxt S):=by
 erw[S,stk,don];cases stk with
 |nil=>exact hs
 |cons p r=>
  erw[p,n,g];erw[hs,chn,nd,O,bot];erw[chn,[s,k,U,hk],c2,c3];have on:∀g',Y.fin g=V6->step Y (F Y) g=g'->SOk n0 (⟨(n,g')::r,don⟩:Ss Y):=by
   intro g' hf e;exists [⟨s,k+1,U,?_⟩:c2:c3],nd,O,.inl ?_
   ·rw[wZ,<-hk,e]
   ·rcases bot with b|⟨b,_⟩
    ·exact b
    ·cases b
  unfold nxt;simp only;cases hf:Y.fin g with
  |true=>
   rw[A3 rfl];exists c2,?_,λq hq=>?_,?_
   ·show(r.map (·.1)++(don++ [(n,g)]).map (·.1)).Nodup;have ac:(n::(r.map (·.1)++don.map (·.1))).Nodup:=nd;rw[uD,<-UT];show((r.map (·.1)++don.map (·.1))++ [n]).Nodup;exact(Tf (l₁:= [n]) (l₂:=r.map (·.1)++don.map (·.1))).nodup_iff.mp ac
   ·rcases Ab.mp hq with hq|hq
    ·exact O q hq
    ·cases Aa.mp hq;exists s,U;show g=_;rw[hk];refine MD (by rwa[<-hk]) (it_end h _ _ (h.l0 n s U))
   ·rcases bot with b|⟨b,_⟩
    ·cases r with
     |nil=>
      right;exists 1;have hn:n=n0:=by simpa using b
      show((don++ [(n,g)]).map (·.1)).getLast? =u_ n0;rw[uD,hn];simp
     |cons q r=>
      left
      simpa [U8] using b
    ·cases b
  |false=>
   rw[A2 uc];have aa:step Y (F Y) g=match Y.want g with
     |none=>Y.own g
     |some m=>match F Y m with
      |some a=>Y.tk g a
      |none=>Y.stuck g m:=by
    unfold step;rw[hf,A2 uc]
   cases hw:Y.want g with
   |none=>exact on _ hf (by rw[aa,hw])
   |some m=>
    rw[hw] at aa;simp only at aa⊢;cases Z:yet ([(n,g)::r:don]:Ss Y) m with
    |some o=>
     have hF:F Y m=o:=by
      unfold yet at Z;by_cases c:m∈((n,g)::r).map (·.1)
      ·rw[A3 c] at Z;cases Z;have w:Wt Y n m:=⟨s,k,U,by rwa[<-hk],by rwa[<-hk]⟩
       rcases A9.mp c with rfl|hm
       ·exact XD h (.one w)
       ·exact XD h (.more (E4 (g:=g) [⟨s,k,U,hk⟩:c2:c3] hm) w)
      ·rw[A2 c] at Z;cases hg:Y.g0 m with
       |none=>
        rw[hg] at Z;cases Z;exact X9 h hg
       |some gm=>
        rw[hg] at Z;simp only at Z;cases hd:Yd don m with
        |none=>rw[hd] at Z;cases Z
        |some gd=>
         rw[hd] at Z;cases Z;erw[O _ (Xx hd),s',e1,e2];rw[hg] at e1;cases e1;have e3:gd=it Y (F Y) Y.M gm:=e2;rw[F_run h hg,e3]
     cases o with
     |some a=>exact on _ hf (by rw[aa,hF])
     |none=>exact on _ hf (by rw[aa,hF])
    |none=>
     simp only;erw[jH Z,h1,[g',hg],h2];rw[hg];exists [⟨g',(0),hg,1⟩:[⟨s,k,U,hk⟩:c2:c3]:λq r' e=>?_],?_,O,.inl ?_
     ·cases e;exact[hf:hw]
     ·show(m::(((n,g)::r).map (·.1)++don.map (·.1))).Nodup;rw[U5];exists λz=>?_,nd;rcases Ab.mp z with z|z
      ·exact h1 z
      ·exact h2 z
     ·rcases bot with b|⟨b,_⟩
      ·show(m::n::r.map (·.1)).getLast? =u_ n0;rwa[U8]
      ·cases b
def nx_ok (h:Y.Ok){n0:Str}{S:Ss Y}(O:SOk n0 S):∀k,SOk n0 (nx S k)
 |0=>O
 |k+1=>AaM h (nx_ok h O k)
def sQ {S:Ss Y}{k:Nat}(h:(nx S k).stk= []):∀j,nx S (k+j)=nx S k
 |0=>rfl
 |j+1=>by
  show nxt (nx S (k+j))=_;rw[sQ h j];unfold nxt;rw[h]
def nx_one {k:Nat}(O:(nx S k).stk= [])(U:(nx S j).stk= []):nx S k=nx S j:=by
 rcases tG k j with h|h
 ·erw[UV h,d,rfl];exact(sQ O d).symm
 ·erw[UV h,d,rfl];exact sQ U d
nonrec def S0 (Y:Sy)(n:Str):Ss Y:=match Y.g0 n with
 |none=>[[]:[]]
 |some g=>[[(n,g)]:[]]
def S0_ok {n:Str}{g:Y.G}(O:Y.g0 n=u_ g):SOk n (S0 Y n):=by
 unfold S0;rw[O];exact⟨⟨⟨g,(0),O,1⟩,trivial,λ_ _ e=>by cases e⟩,by simp,λ_ h=>(by cases h),.inl rfl⟩
end Sy
end K24
namespace K24
open PySem L2 PyProof.Rows
nonrec def ThS (d:D):Prop:=(∃z,d=flt z)∨(∃e,d= .tup [.str "said",e]/\isT e=v_)∨∃(u z:Str),d= .tup [.str "asks",.tup [.str u,.str z]]/\isT (.str z)=v_/\(u="names"∨(u="thing"∨u="has")/\nm z=v_)
def Em {d:D}(h:mG d=v_):∃z,d= .str z/\nm z=true:=by
 cases d with
 |str z=>exact[z:1:h]
 |_=>cases h
variable {own:Str}{n:Nat}{r:Rw}{e:D}
def NV {B:Str->D}{p:Int}(hr:Jb n 300 r)(h:Tr B)(O:mB own r B p= .stop e):ThS e:=by
 unfold mB at O;erw[id hr,ks,hk,hp];erw[r,U,ps];by_cases c1:U∈MKR
 ·rw[A3 c1] at O;simp only at O;generalize made U B own ps=dm at O;have aa:(if isT dm=v_ then Out.go (AG B (b0 ps) dm) (p+1) else .stop (flt "big"))= .stop e->ThS e:=by
   intro hq;by_cases c:isT dm=v_
   ·rw[A3 c] at hq;cases hq
   ·rw[A2 c] at hq;cases hq;exact .inl ⟨0⟩
  cases dm with
  |non=>cases O;exact .inl ⟨0⟩
  |_=>exact aa O
 rw[A2 c1] at O;by_cases c2:U∈ASK
 ·rw[A3 c2] at O;cases O;erw[wA _ hk c2,_,_,ek];simp only at ek;subst ek;erw[wY hp,z0,z1,rfl,h0,h1];have hT:=h z1 h1;show ThS (sr U (B z1));unfold sr;by_cases d1:U="names"
  ·rw[A3 d1];by_cases Z:isStr (B z1)=v_
   ·rw[A3 Z];obtain⟨z,ez⟩:∃z,B z1= .str z:=by
     cases hb:B z1 with
     |str z=>exact[z:1]
     |_=>rw[hb] at Z;cases Z
    rw[ez] at hT⊢;exact .inr (.inr ⟨_,z,1,hT,.inl rfl⟩)
   ·rw[A2 Z];exact .inl ⟨0⟩
  ·rw[A2 d1];by_cases Z:mG (B z1)=v_
   ·rw[A3 Z];erw[Em Z,z,ez,hz];rw[ez] at hT⊢;refine .inr (.inr ⟨_,z,1,hT,.inr [?_:hz]⟩);split
    ·exact .inl rfl
    ·exact .inr rfl
   ·rw[A2 Z];exact .inl ⟨0⟩
 rw[A2 c2] at O;by_cases c3:U="say"
 ·rw[A3 c3] at O;cases O;subst c3;have ek:=Ag _ hk rfl;simp only at ek;subst ek;erw[Acd hp,z0,rfl,h0];exact .inr (.inl [0:h z0 h0])
 rw[A2 c3] at O;by_cases c4:U="fault"
 ·rw[A3 c4] at O;cases O;exact .inl ⟨0⟩
 rw[A2 c4] at O;by_cases c5:MC U B ps=v_
 ·rw[A3 c5] at O;cases O
 ·rw[A2 c5] at O;cases O
def sH {rs:oj Rw}{own:Str}(U:ya rs):∀(f:Nat) (B:Str->D) (p:Int) (n:Nat) (gs:oj D),Tr B->1<=p->p<=↑rs+1->ThS (mF rs own gs f B p n).th
 |0,B,p,n,gs,hT,h1,h2=>by
  show ThS (if p>↑rs then flt "silent" else flt "long")
  split<;>exact .inl ⟨0⟩
 |f+1,B,p,n,gs,hT,h1,h2=>by
  unfold mF;by_cases c:p>↑rs
  ·rw[A3 c];exact .inl ⟨0⟩
  ·rw[A2 c];have O:=U.ok _ (KC h1 ())
   have hok:=sJ (own:=own) O hT h1 ()
   cases Z:mB own (Jd rs p) B p with
   |go B' p'=>
    rw[Z] at hok;exact sH U f B' p' (n+1) gs hok.1 hok.2.1 hok.2.2
   |stop e=>exact NV O hT Z
variable {rs:oj Rw}
def Ie (O:ya rs){r:Rn}{a:D}(h:Ih rs r)(U:QK r.th=v_)(ha:X6 a):ThS (mo rs own r a).th:=by
 erw[h.ask U,k1,_];unfold mo;cases hn:YI a with
 |true=>rw[A3 rfl];exact .inl ⟨0⟩
 |false=>
  rw[A2 uc];have Z:isT a=true:=by
   rcases ha with rfl|ha
   ·cases hn
   ·exact ha
  exact sH O _ _ _ _ _ (KB h.tr Z) (by have:=h.p1;omega) ()
def Mh {rs:oj Rw}{own:Str}:∀(f:Nat) (B:Str->D) (p:Int) (n:Nat) (gs:oj D),QK (mF rs own gs f B p n).th=v_->1<=f/\n<=(mF rs own gs f B p n).n
 |0,B,p,n,gs,h=>by
  have h:QK (if p>↑rs then flt "silent" else flt "long")=true:=h
  split at h<;>exact A7 h ()
 |f+1,B,p,n,gs,h=>by
  exists ()
  unfold mF at h⊢;by_cases c:p>↑rs
  ·rw[A3 c] at h;exact A7 h (show¬QK (flt "silent")=v_ by decide+kernel)
  ·rw[A2 c] at h⊢;cases U:mB own (Jd rs p) B p with
   |go O p'=>
    rw[U] at h;have:=(Mh f O p' (n+1) gs h).2;show n<=(mF rs own gs f O p' (n+1)).n;omega
   |stop e=>
    show n<=(if QK e=v_ then n else n+1)
    split<;>omega
def Abr {r:Rn}{a:D}(h:QK (mo rs own r a).th=v_):r.n+1<300/\r.n+1<=(mo rs own r a).n:=by
 unfold mo at h⊢;cases hn:YI a with
 |true=>rw[hn,A3 rfl] at h;exact A7 h (show¬QK (flt "lack")=v_ by decide+kernel)
 |false=>
  rw[hn,A2 uc] at h;rw[A2 uc];have:=Mh _ _ _ _ _ h;exact[():this.2]
structure Gp where
 n:Str
 mb:D
 ra:oj D
 run:om (oj Rw×Rn)
 en:om D
nonrec def mV (r:Rn):om D:=if QK r.th=v_ then U_ else u_ r.th
nonrec def me (g:Gp)(d:D):Gp:=if YI d=v_ then{g with en:=u_ (flt "lack")} else match QI d with
 |none=>{g with en:=u_ (flt "rule")}
 |some rs=>{g with run:=u_ (rs,R0 rs g.n),en:=mV (R0 rs g.n)}
nonrec def QX (g:Gp)(d:D):Gp:=match g.run with
 |none=>me {g with ra:= [.tup [.tup [.str "rule",g.mb],d]]} d
 |some (rs,r)=>{g with run:=u_ (rs,mo rs g.n r d),en:=mV (mo rs g.n r d)}
nonrec def yg (g:Gp):D:=match g.run with
 |none=> .tup [.str "rule",g.mb]
 |some (_,r)=>XT r.th
nonrec def YX (qs:oj (Str×D))(k z:Str):D:=if k="has" then .str (if z∈qs.map (·.1) then "yes" else "no") else BZ (AL [] ((qs.map (·.1)).filter λy=>Gg y z))
nonrec def mM (k:Str):Bool:=decide (k="has")||decide (k="names")
nonrec def yJ (g:Gp):om Str:=match yg g with
 | .tup [.str k,.str z]=>if mM k=v_ then U_ else u_ z
 |_=>U_
nonrec def na (qs:oj (Str×D))(g:Gp):Gp:=match yg g with
 | .tup [.str k,.str z]=>QX g (YX qs k z)
 |_=>{g with en:=u_ (flt "name")}
nonrec def Xl:D->om D
 | .tup [.str k,v]=>if k="said" then u_ v else U_
 |_=>U_
nonrec def YJ (g:Gp):om D:=g.en.bind Xl
nonrec def Sh (g:Gp)(m:Str):Gp:={g with en:=u_ (.tup [.str "stuck",.str m])}
nonrec def sS (g:Gp):Nat:=match g.en with
 |some _=>0
 |none=>match g.run with
  |none=>302
  |some (_,r)=>1+(300-r.n)
nonrec def g0D (m:Str):D->om Gp
 | .tup [.str k,e]=>if k="leaf" then U_ else if k="made" then u_ ⟨m,e,[],U_,U_⟩ else u_ (me ⟨m,.non,[],U_,U_⟩ e)
 |_=>U_
nonrec def zr:D->om D
 | .tup [.str _,e]=>u_ e
 |_=>U_
nonrec def SyP (qs:oj (Str×D)):Sy:=⟨Gp,λg=>g.en.isSome,yJ,na qs,λg a=>QX g (a.getD .non),Sh,YJ,λm=>g0D m (qH qs m),λm=>zr (qH qs m),sS,(302),qs.map (·.1)⟩
variable {g:Gp}
def D9 (h:g.run=U_)(d:D):g.en=U_->sS (me g d)<302:=by
 intro O;unfold me;split
 ·show(0:Nat)<302;omega
 ·cases U:QI d with
  |none=>show(0:Nat)<302;omega
  |some rs=>
   show(match mV (R0 rs g.n) with|some _=>0|none=>1+(300-(R0 rs g.n).n))<302
   cases mV (R0 rs g.n) with
   |some d=>show(0:Nat)<302;omega
   |none=>show(1+(300-(R0 rs g.n).n):Nat)<302;omega
def Bj (O:g.en=U_)(d:D):sS (QX g d)<sS g:=by
 unfold QX;cases U:g.run with
 |none=>
  have e:sS g=302:=by unfold sS;rw[O,U]
  rw[e];exact D9 (g:=⟨g.n,g.mb,[.tup [.tup [.str "rule",g.mb],d]],U_,g.en⟩) rfl d O
 |some p=>
  erw[p,rs,r];have e:sS g=1+(300-r.n):=by unfold sS;rw[O,U]
  rw[e];show(match mV (mo rs g.n r d) with|some _=>0|none=>1+(300-(mo rs g.n r d).n))<_
  unfold mV;by_cases c:QK (mo rs g.n r d).th=v_
  ·rw[A3 c];have:=Abr c;show 1+(300-(mo rs g.n r d).n)<1+(300-r.n);omega
  ·rw[A2 c];show 0<1+(300-r.n);omega
variable {qs:oj (Str×D)}{z:Str}
def Y3 (h:z∉qs.map (·.1)):qH qs z= .non:=by
 unfold qH;have:(qs.find? λp=>decide (p.1=z))=none:=by
  rw[Ul];intro p O e;exact h (Ac.mpr [p:O:uw e])
 rw[this]
 rfl
def Qs (qs:oj (Str×D)):(SyP qs).Ok where
 fs:=λ_ _=>rfl
 ss:=λg m=>by
  show Xl (.tup [.str "stuck",.str m])=U_;unfold Xl;exact A2 ()
 sf:=λg v h=>by
  have h:YJ g=u_ v:=h;unfold YJ at h;show g.en.isSome=v_;cases O:g.en with
  |none=>rw[O] at h;cases h
  |some d=>rfl
 lo:=λg U Z=>by
  have O:g.en=none:=by
   cases O:g.en with
   |none=>rfl
   |some d=>have U:g.en.isSome=false:=U;rw[O] at U;cases U
  show sS (na qs g)<sS g;unfold na;split
  ·exact Bj O _
  ·have:0<sS g:=by
    unfold sS;rw[O];simp only;split<;>omega
   exact this
 lt:=λg m a U Z=>by
  have O:g.en=none:=by
   cases O:g.en with
   |none=>rfl
   |some d=>have U:g.en.isSome=false:=U;rw[O] at U;cases U
  exact Bj O _
 lk:=λg m U=>by
  have O:g.en=none:=by
   cases O:g.en with
   |none=>rfl
   |some d=>have U:g.en.isSome=false:=U;rw[O] at U;cases U
  show 0<sS g;unfold sS;rw[O];simp only;split<;>omega
 l0:=λm g h=>by
  have h:g0D m (qH qs m)=u_ g:=h;show sS g<=302;unfold g0D at h;split at h
  ·split at h
   ·cases h
   ·split at h
    ·cases h;exact uq _
    ·cases h;exact UE (D9 rfl _ rfl)
  ·cases h
 gn:=λm g h=>by
  have h:g0D m (qH qs m)=u_ g:=h;show m∈qs.map (·.1);by_cases c:m∈qs.map (·.1)
  ·exact c
  ·rw[Y3 c] at h;cases h
nonrec def EnS (d:D):Prop:=(∃z,d=flt z)∨(∃e,d= .tup [.str "said",e]/\isT e=v_)∨∃z,d= .tup [.str "stuck",.str z]
structure GI (g:Gp):Prop where
 n:nm g.n=v_
 run:∀rs r,g.run=u_ (rs,r)->ya rs/\Ih rs r/\ThS r.th/\(g.en=U_->QK r.th=v_)
 no:g.run=U_->g.en=U_->∃z,g.mb= .str z/\nm z=v_
 en:∀d,g.en=u_ d->EnS d
 ra:nL g.ra=v_/\dpL g.ra<=30/\↑g.ra<=1
def Abg {r:Rn}(h:ThS r.th){d:D}(e:mV r=u_ d):EnS d:=by
 unfold mV at e;by_cases c:QK r.th=v_
 ·rw[A3 c] at e;cases e
 ·rw[A2 c] at e;cases e;rcases h with h|h|⟨u,z,h,_⟩
  ·exact .inl h
  ·exact .inr (.inl h)
  ·rw[h] at c;exact A7 (show decide (("asks":Str)="asks")=v_ from A6 rfl) c
def EL {r:Rn}(e:mV r=U_):QK r.th=true:=by
 unfold mV at e;by_cases c:QK r.th=v_
 ·exact c
 ·rw[A2 c] at e;cases e
def PP {n:Str}(h:ya rs):ThS (R0 rs n).th:=sH h 300 B0 1 0 [] Se () (by have:=h.n0;omega)
def MJ (d:D)(h1:nm g.n=v_)(h2:g.run=U_)(h3:nL g.ra=v_/\dpL g.ra<=30/\↑g.ra<=1):GI (me g d):=by
 unfold me;split
 ·exact⟨h1,λrs r e=>(by rw[show g.run=u_ (rs,r) from e] at h2;cases h2),(λ_ e=>by cases e),λd e=>by cases e;exact .inl ⟨0⟩,h3⟩
 ·cases U:QI d with
  |none=>exact⟨h1,λrs r e=>(by rw[show g.run=u_ (rs,r) from e] at h2;cases h2),(λ_ e=>by cases e),λd e=>by cases e;exact .inl ⟨0⟩,h3⟩
  |some rs=>
   have O:=(X4 U).2;exact⟨h1,λZ r e=>by cases e;exact⟨O,PQ O,PP O,λe=>EL e⟩,λe _=>(by cases e),λd e=>Abg (PP O) e,h3⟩
def Af (h:GI g)(U:g.en=U_){d:D}(ha:X6 d):GI (QX g d):=by
 unfold QX;cases Z:g.run with
 |none=>
  erw[h.no Z U,z,hz,_];refine MJ d h.n rfl ?_;have O:nD d=v_/\dp d<=12:=by
   rcases ha with rfl|ha
   ·exact⟨1,by simp[dp]⟩
   ·exact[kK (yj ha):xr ha]
  rw[hz];exists ?_,?_,uq _
  ·simp![nL,nD,O.1,vU]
  ·simp![dpL,dp];have:=O.2;omega
 |some p=>
  erw[p,rs,r];erw[h.run rs r Z,k1,k2,k3,k4];have hs:=Ie (own:=g.n) k1 k2 (k4 U) ha;exact⟨h.n,λaa r' e=>by cases e;exact⟨k1,At k1 k2 (k4 U) ha,hs,λe=>EL e⟩,λe _=>(by cases e),λd e=>Abg hs e,h.ra⟩
def MI (h:GI g)(m:Str):GI (Sh g m):=⟨h.n,λrs r e=>⟨(h.run rs r e).1,(h.run rs r e).2.1,(h.run rs r e).2.2.1,(λz=>by cases z)⟩,(λ_ e=>by cases e),λd e=>by cases e;exact .inr (.inr [m:1]),h.ra⟩
def nV:∀(zs O:oj Str),isT (BZ O)=v_->isT (BZ (AL O zs))=v_
 | [],O,h=>h
 |z::r,O,h=>by
  unfold AL;split
  ·rename_i c;exact nV r _ c
  ·exact h
def zO (U:Qi qs){k:Str}(z:Str)(hk:mM k=v_):isT (YX qs k z)=v_/\BL k (YX qs k z)=true:=by
 unfold YX;by_cases c:k="has"
 ·rw[A3 c,c];split<;>exact[():()]
 ·rw[A2 c];have O:isT (BZ (AL [] ((qs.map (·.1)).filter λy=>Gg y z)))=true:=nV _ [] ()
  exists O;have Z:LG (BZ (AL [] ((qs.map (·.1)).filter λy=>Gg y z)))=true:=by
   show List.all (H_ D.str _) mG=v_;rw[Ub];intro x hx;erw[Ac.mp hx,y,hy,rfl];rcases AK _ _ _ hy with h|h
   ·cases h
   ·exact U.1.1.1 y (List.mem_filter.mp h).1
  unfold BL;rw[A2 (show¬YI (BZ _)=v_ from uc),A3 O,A2 c,Z,Bool.or_true]
def jL (h:GI g)(he:g.en=U_)(U:yJ g=U_):∃rs r k z,g.run=u_ (rs,r)/\r.th= .tup [.str "asks",.tup [.str k,.str z]]/\mM k=v_/\isT (.str z)=v_/\na qs g=QX g (YX qs k z):=by
 unfold yJ at U;cases Z:g.run with
 |none=>
  erw[h.no Z he,z,hz,_];have e:yg g= .tup [.str "rule",.str z]:=by unfold yg;rw[Z,hz]
  rw[e] at U;simp![show mM "rule"=V6 by decide+kernel,A2 uc] at U
  cases U
 |some p=>
  erw[p,rs,r];erw[h.run rs r Z,k1,k2,k3,k4];have O:=k4 he;rcases k3 with⟨z,e⟩|⟨d,e,_⟩|⟨u,z,e,ht,hu⟩
  ·rw[e] at O;exact A7 O (by show¬decide (("fault":Str)="asks")=v_;decide+kernel)
  ·rw[e] at O;exact A7 O (by show¬decide (("said":Str)="asks")=v_;decide+kernel)
  ·have e2:yg g= .tup [.str u,.str z]:=by unfold yg;rw[Z];show XT r.th=_;rw[e];rfl
   rw[e2] at U;simp only at U;cases hk:mM u with
   |false=>rw[hk,A2 uc] at U;cases U
   |true=>exact⟨rs,r,u,z,1,e,hk,ht,by unfold na;rw[e2]⟩
variable {m:Str}
def WI (h:GI g)(he:g.en=U_)(O:yJ g=u_ m):nm m=v_/\((g.run=U_/\g.mb= .str m)∨∃rs r,g.run=u_ (rs,r)/\r.th= .tup [.str "asks",.tup [.str "thing",.str m]]):=by
 unfold yJ at O;cases Z:g.run with
 |none=>
  erw[h.no Z he,z,hz,hn];have e:yg g= .tup [.str "rule",.str z]:=by unfold yg;rw[Z,hz]
  rw[e] at O;simp![show mM "rule"=V6 by decide+kernel,A2 uc] at O
  cases O;exact[hn:.inl [1:hz]]
 |some p=>
  erw[p,rs,r];erw[h.run rs r Z,k1,k2,k3,k4];have U:=k4 he;rcases k3 with⟨z,e⟩|⟨d,e,_⟩|⟨u,z,e,ht,hu⟩
  ·rw[e] at U;exact A7 U (by show¬decide (("fault":Str)="asks")=v_;decide+kernel)
  ·rw[e] at U;exact A7 U (by show¬decide (("said":Str)="asks")=v_;decide+kernel)
  ·have e2:yg g= .tup [.str u,.str z]:=by unfold yg;rw[Z];show XT r.th=_;rw[e];rfl
   rw[e2] at O;simp only at O;rcases hu with rfl|⟨rfl|rfl,hn⟩
   ·rw[A3 ()] at O;cases O
   ·rw[A2 ()] at O
    cases O;exact[hn:.inr ⟨rs,r,1,e⟩]
   ·rw[A3 ()] at O;cases O
def Ey (U:Qi qs)(h:GI g)(O:g.en=U_)(Z:yJ g=U_):GI (na qs g):=by
 erw[jL (qs:=qs) h O Z,rs,r,k,z,_,_,hk,_,e];rw[e];exact Af h O (.inr (zO U z hk).1)
def jU (U:Qi qs)(h:m∈qs.map (·.1)):nm m=v_/\∃k e,qH qs m= .tup [.str k,e]/\(k="made"->∃z,e= .str z/\nm z=v_)/\(k≠"made"->(k="leaf"∨k="rule")/\isT e=v_):=by
 have hs:=U.1.2 _ (EY U.1.1.2 h);erw[hs,[k,e,O],h2,_];have O:qH qs m= .tup [.str k,e]:=O;have h2:oJ (qH qs m)=true:=h2;rw[O] at h2;have e1:oJ (.tup [.str k,e])=if eqD (.str k) (.str "made")=v_ then mG e else(eqD (.str k) (.str "leaf")||eqD (.str k) (.str "rule"))&&isT e:=rfl
 rw[e1] at h2;have Z:∀y:Str,eqD (.str k) (.str y)=decide (k=y):=λy=>rfl;rw[Z,Z,Z] at h2;exists U.1.1.1 m h,k,e,O,λc=>?_,λc=>?_
 ·rw[A6 c,A3 rfl] at h2;exact Em h2
 ·rwa[ue c,A2 uc,uF,Ho,ve,ve] at h2
def Kb (U:Qi qs)(h:g0D m (qH qs m)=u_ g):GI g/\g.n=m:=by
 have hm:m∈qs.map (·.1):=(Qs qs).gn m g h;erw[jU U hm,hn,k,e,hd,h1,h2];rw[hd] at h;unfold g0D at h;simp only at h;have O:nL ([]:oj D)=v_/\dpL ([]:oj D)<=30/\↑([]:oj D)<=1:=⟨1,by simp[dpL],uP _⟩
 split at h
 ·cases h
 ·split at h
  ·rename_i c
   cases h;erw[h1 c,z,rfl,Z];exact⟨⟨hn,λrs r e=>(by cases e),λ_ _=>[z:1:Z],λd e=>(by cases e),O⟩,1⟩
  ·cases h;exists MJ e hn rfl O;unfold me;split
   ·rfl
   ·split<;>rfl
def sG (h:GI g){v:D}(e:YJ g=u_ v):isT v=true:=by
 unfold YJ at e;cases O:g.en with
 |none=>rw[O] at e;cases e
 |some d=>
  rw[O] at e;have e:Xl d=u_ v:=e;rcases h.en d O with⟨z,rfl⟩|⟨x,rfl,U⟩|⟨z,rfl⟩
  ·exact A7 e (by unfold Xl flt;simp only;rw[A2 ()];exact λh=>by cases h)
  ·have Z:Xl (.tup [.str "said",x])=u_ x:=by unfold Xl;dsimp only;exact A3 rfl
   rw[Z] at e;cases e;exact U
  ·exact A7 e (by unfold Xl;simp only;rw[A2 ()];exact λh=>by cases h)
def CD (g:Gp)(d:D):(QX g d).n=g.n:=by
 unfold QX;split
 ·unfold me;split
  ·rfl
  ·split<;>rfl
 ·rfl
def Aaz (qs:oj (Str×D))(g:Gp):(na qs g).n=g.n:=by
 unfold na;split
 ·exact CD _ _
 ·rfl
nonrec def SGI {qs:oj (Str×D)}(S:Sy.Ss (SyP qs)):Prop:=∀p:Str×Gp,p∈S.stk∨p∈S.don->GI p.2/\p.2.n=p.1
def L8 (Z:Qi qs){S:Sy.Ss (SyP qs)}(h:SGI S){a:om D}(e:Sy.yet S m=u_ (u_ a)):X6 (a.getD .non):=by
 unfold Sy.yet at e;split at e
 ·cases e
 ·split at e
  ·rename_i O
   cases e;have O:g0D m (qH qs m)=none:=O;show X6 ((zr (qH qs m)).getD .non);by_cases hm:m∈qs.map (·.1)
   ·erw[jU Z hm,hn,k,e,hd,h1,h2];rw[hd] at O⊢;unfold g0D at O;simp only at O;by_cases c:k="leaf"
    ·exact .inr (h2 (by rw[c];decide+kernel)).2
    ·rw[A2 c] at O;split at O<;>cases O
   ·rw[Y3 hm];exact .inl rfl
  ·cases hd:Sy.Yd S.don m with
   |none=>rw[hd] at e;cases e
   |some g=>
    rw[hd] at e;have e:(YJ g).map u_=u_ a:=uN e;cases U:YJ g with
    |none=>rw[U] at e;cases e
    |some v=>
     rw[U] at e;cases e;exact .inr (sG (h (m,g) (.inr (Sy.Xx hd))).1 U)
def DT (hq:Qi qs){S:Sy.Ss (SyP qs)}(h:SGI S):SGI (Sy.nxt S):=by
 erw[S,stk,don];cases stk with
 |nil=>exact h
 |cons p r=>
  erw[p,n,g];erw[h (n,g) (.inl uj),U,hn];have on:∀g':Gp,GI g'->g'.n=n->SGI #[Y,(n,g')::r,don]:=by
   intro g' h1 h2 p O;rcases O with O|O
   ·rcases A9.mp O with rfl|O
    ·exact[h1:h2]
    ·exact h p (.inl (ui _ O))
   ·exact h p (.inr O)
  unfold Sy.nxt;simp only;by_cases hf:(SyP qs).fin g=v_
  ·rw[A3 hf];intro p O;rcases O with O|O
   ·exact h p (.inl (ui _ O))
   ·rcases Ab.mp O with O|O
    ·exact h p (.inr O)
    ·cases Aa.mp O;exact[U:hn]
  ·rw[A2 hf];have Z:Gp.en g=none:=by
    cases Z:Gp.en g with
    |none=>rfl
    |some d=>exact A7 (show(Gp.en g).isSome=v_ by rw[Z];rfl) hf
   cases hw:(SyP qs).want g with
   |none=>exact on _ (Ey hq U Z hw) ((Aaz qs g).trans hn)
   |some m=>
    simp only;cases hy:Sy.yet #[Y,(n,g)::r,don] m with
    |some o=>
     cases o with
     |some a=>exact on _ (Af U Z (L8 hq h hy)) ((CD _ _).trans hn)
     |none=>exact on _ (MI U m) hn
    |none=>
     erw[Sy.jH hy,_,[g',e],_];simp only;rw[e];intro p O;rcases O with O|O
     ·rcases A9.mp O with rfl|O
      ·exact Kb hq e
      ·exact h p (.inl O)
     ·exact h p (.inr O)
structure Oc where
 (x dx px ls du dr df:o3)
nonrec def ofs (o:Oc):oj (Str×V):= [("given_project",.ref o.px),("stack",.ref o.ls),("under_way",.ref o.du),("full_runs",.ref o.dr),("found",.ref o.df)]
nonrec def OMT:oj Str:= ["go_through","enter","settle","runner","leave","go_on","answer_yet","begin_anew"]
def OY (o:Oc):(ofs o).lookup ("given_project":Str)=u_ (.ref o.px):=rfl
def Lr (o:Oc):(ofs o).lookup ("stack":Str)=u_ (.ref o.ls):=rfl
def OW (o:Oc):(ofs o).lookup ("under_way":Str)=u_ (.ref o.du):=rfl
def Ls (o:Oc):(ofs o).lookup ("full_runs":Str)=u_ (.ref o.dr):=rfl
def Lu (o:Oc):(ofs o).lookup ("found":Str)=u_ (.ref o.df):=rfl
def zV (o:Oc):∀m∈OMT,(ofs o).lookup m=none:=by
 intro m hm;simp![OMT,uG,uH,uS] at hm;rcases hm with rfl|rfl|rfl|rfl|rfl|rfl|rfl|rfl<;>rfl
structure Kp (L:oj o3)(H H':Hp):Prop where
 kept:∀b ob,H b=u_ ob->b∉L->H' b=u_ ob
 tk:Tk H H'
variable {L:oj o3}{H H':Hp}
def Kp.of (s:ia H H'):Kp L H H':=[λb ob h _=>s b ob h:s.tk]
variable {H1 H2:Hp}
def Kp.trans (h:Kp L H H1)(k:Kp L H1 H2):Kp L H H2:=[λb ob e n=>k.kept b ob (h.kept b ob e n) n:h.tk.trans k.tk]
variable {p:o3}
def Kp.updD {xs ys:oj (Key×V)}(h:H p=u_ (.dK xs))(O:p∈L):Kp L H (upd H p (.dK ys)):=⟨λb ob e n=>by have nb:b≠p:=(λz=>n (by rwa[z]));rwa[qj nb],Tk.updD h⟩
def wb {κ:Type}[DecidableEq κ](k j:κ):∀kvs:oj (κ×V),iW (Js kvs k) j=if j=k then U_ else iW kvs j
 | []=>by show U_=_;split<;>rfl
 |p::r=>by
  by_cases c:p.1=k
  ·rw[EN c,wb k j r];by_cases d:j=k
   ·rw[A3 d,A3 d]
   ·rw[A2 d,A2 d,QJ (λz=>d (z.symm.trans c))]
  ·rw[EO c];by_cases d:p.1=j
   ·rw[QQ d,A2 (λz=>c (d.trans z)),QQ d]
   ·rw[QJ d,wb k j r,QJ d]
variable {C:o3}
def yw.kp {x:o3}(h:yw C H x qs)(k:Kp L H H')(Z:∀p∈L,(∃xs,H p=u_ (.lst xs))∨(∃xs,H p=u_ (.dK xs))∨H p=U_):yw C H' x qs:=by
 erw[h,dx,d,o,vs,O,U,e3,e4];have n1:x∉L:=λz=>by rcases Z x z with⟨_,e⟩|⟨_,e⟩|e<;>rw[e] at O<;>cases O
 have n2:d∉L:=λz=>by rcases Z d z with⟨_,e⟩|⟨_,e⟩|e<;>rw[e] at U<;>cases U
 exact⟨dx,d,o,vs,k.kept _ _ O n1,k.kept _ _ U n2,e3,e4.mono k.tk⟩
structure OAt (CO CP:o3)(H:Hp)(o:Oc)(qs:oj (Str×D)):Prop where
 e:H o.x=u_ (.ins CO o.dx (ofs o))
 p:yw CP H o.px qs
variable {CO CP:o3}
def OAt.kp {o:Oc}(h:OAt CO CP H o qs)(k:Kp L H H')(O:∀p∈L,(∃xs,H p=u_ (.lst xs))∨(∃xs,H p=u_ (.dK xs))∨H p=U_):OAt CO CP H' o qs:=by
 exists k.kept _ _ h.e (λz=>?_),h.p.kp k O;have U:=h.e;rcases O o.x z with⟨_,e⟩|⟨_,e⟩|e<;>rw[e] at U<;>cases U
nonrec def PK {qs:oj (Str×D)}(S:Sy.Ss (SyP qs))(uk:oj (Key×V)):Prop:=∀m:Str,(iW uk (Va m)).isSome=decide (m∈S.stk.map (·.1))
nonrec def Cq {qs:oj (Str×D)}(H:Hp)(S:Sy.Ss (SyP qs))(fk:oj (Key×V)):Prop:=∀(m:Str) (g:Gp),g0D m (qH qs m)=u_ g->
 (∀g':Gp,Sy.Yd S.don m=u_ g'->∃v,iW fk (Va m)=u_ v/\Is H (qU (g'.en.getD .non)) v)/\(Sy.Yd S.don m=U_->iW fk (Va m)=U_)
variable {fk:oj (Key×V)}
def Cq.mono {S:Sy.Ss (SyP qs)}(h:Cq H S fk)(t:Tk H H'):Cq H' S fk:=λm g O=>⟨λg' e=>let⟨v,a,b⟩:=(h m g O).1 g' e;[v:a:b.mono t],(h m g O).2⟩
nonrec def LY:om (om D)->D->Prop
 |some (u_ v),d=>d= .tup [.str "value",v]
 |some U_,d=>d= .tup [.str "lack"]
 |none,d=>∃k r,d= .tup (.str k::r)/\k≠"value"/\k≠"lack"
nonrec def nrg (d:D):Prop:=∃k r,d= .tup (.str k::r)/\(k="value"∨k="lack"∨k="fault"∨k="stuck")
nonrec def Abq (qs:oj (Str×D))(don:oj (Str×Gp))(m:Str):D:=match g0D m (qH qs m) with
 |none=>XB (qH qs m)
 |some _=>qU (((Sy.Yd (Y:=SyP qs) don m).bind λg:Gp=>g.en).getD .non)
nonrec def sw {qs:oj (Str×D)}(H:Hp)(S:Sy.Ss (SyP qs))(m:Str)(v:V):Prop:=match Sy.yet S m with
 |none=>v= .non
 |some o=>∃d,Is H d v/\LY o d/\(m∉S.stk.map (·.1)->nrg d/\d=Abq qs S.don m)
inductive Me (CO CP:Addr):Sp
 |mk (o:Oc)(m:Str)(qs:List (Str×D))(S:Sy.Ss (SyP qs))(uk fk:List (Key×V))(_:vs= [.ref o.x,.str m])(_:OAt CO CP H o qs)(_:Qi qs)(_:SGI S)(_:H o.du=u_ (.dK uk))(_:PK S uk)(_:H o.df=u_ (.dK fk))(_:Cq H S fk)(_:↑fk<=100000)(_:(∀p∈S.don,(SyP qs).fin p.2=v_))(_:∀(v:V)(H':Hp)(fk':List (Key×V)),Kp [o.df] H H'->H' o.df=u_ (.dK fk')->Cq H' S fk'->↑fk'<=↑fk+1->(Sy.yet S m=U_->↑fk'=↑fk)->sw H' S m v->Q v H')
inductive C5 (CO:Addr):Sp
 |mk (x dx px:Addr)(_:vs= [.ref x,.ref px])(_:H x=u_ (.ins CO dx []))(_:∀(o:Oc)(H':Hp),o.x=x->o.dx=dx->o.px=px->(∀b ob,H b=u_ ob->b≠x->H' b=u_ ob)->Tk H H'->H o.ls=U_->H o.du=U_->H o.dr=U_->H o.df=U_-> [o.ls,o.du,o.dr,o.df].Nodup->H' x=u_ (.ins CO dx (ofs o))->H' o.ls=u_ (.lst [])->H' o.du=u_ (.dK [])->H' o.dr=u_ (.dK [])->H' o.df=u_ (.dK [])->Q .non H')
inductive IF:Sp
 |mk (x:_)(y:_)(_:vs= [x,y])(_:Q .non H)
def ZT (O:Qi qs)(h:g0D m (qH qs m)=U_):∃k,XB (qH qs m)= .tup k/\LY (u_ (zr (qH qs m))) (.tup k)/\nrg (.tup k):=by
 by_cases hm:m∈qs.map (·.1)
 ·erw[jU O hm,hn,k,e,hd,h1,h2];rw[hd] at h⊢;unfold g0D at h;simp only at h;by_cases c:k="leaf"
  ·exists [.str "value",e],?_,1,[_:0:.inl rfl];unfold XB;simp only;exact A3 c
  ·rw[A2 c] at h;split at h<;>cases h
 ·rw[Y3 hm];exact[0:1:[_:0:.inr (.inl rfl)]]
def Oq (O:Qi qs)(h:g0D m (qH qs m)=u_ g):XB (qH qs m)= .non:=by
 erw[jU O ((Qs qs).gn m g h),hn,k,e,hd,h1,h2];rw[hd] at h⊢;unfold g0D at h;simp only at h;by_cases c:k="leaf"
 ·rw[A3 c] at h;cases h
 ·unfold XB;simp only;exact A2 c
def Abo (h:GI g)(hf:g.en.isSome=v_):LY ((YJ g).map u_) (qU (g.en.getD .non)):=by
 cases Z:g.en with
 |none=>rw[Z] at hf;cases hf
 |some d=>
  unfold YJ;rw[Z];show LY ((Xl d).map u_) (qU d);rcases h.en d Z with⟨z,rfl⟩|⟨x,rfl,hx⟩|⟨z,rfl⟩
  ·have O:Xl (flt z)=none:=by unfold Xl flt;dsimp only;exact A2 ()
   have U:qU (flt z)=flt z:=by unfold qU flt;dsimp only;exact A2 ()
   rw[O,U];exact⟨"fault",[.str z],1,(),()⟩
  ·have O:Xl (.tup [.str "said",x])=u_ x:=by unfold Xl;dsimp only;exact A3 rfl
   have U:qU (.tup [.str "said",x])= .tup [.str "value",x]:=by unfold qU;dsimp only;exact A3 rfl
   rw[O,U];exact rfl
  ·have O:Xl (.tup [.str "stuck",.str z])=none:=by unfold Xl;dsimp only;exact A2 ()
   have U:qU (.tup [.str "stuck",.str z])= .tup [.str "stuck",.str z]:=by unfold qU;dsimp only;exact A2 ()
   rw[O,U];exact⟨"stuck",[.str z],1,(),()⟩
def PH (h:GI g)(U:g.en.isSome=v_):nrg (qU (g.en.getD .non)):=by
 cases Z:g.en with
 |none=>rw[Z] at U;cases U
 |some d=>
  show nrg (qU d);rcases h.en d Z with⟨z,rfl⟩|⟨x,rfl,hx⟩|⟨z,rfl⟩
  ·have O:qU (flt z)=flt z:=by unfold qU flt;dsimp only;exact A2 ()
   rw[O];exact[_:0:.inr (.inr (.inl rfl))]
  ·have O:qU (.tup [.str "said",x])= .tup [.str "value",x]:=by unfold qU;dsimp only;exact A3 rfl
   rw[O];exact[_:0:.inl rfl]
  ·have O:qU (.tup [.str "stuck",.str z])= .tup [.str "stuck",.str z]:=by unfold qU;dsimp only;exact A2 ()
   rw[O];exact[_:0:.inr (.inr (.inr rfl))]
section
variable {P:o9}{w:og}{K:o0}{mg:Str->om o6}{base:o8}{a:Ad}{g:Ga}
def Lg:#[T,1,a.ja,a.Y4,["self","going"],IF]:=by
 exists 9,T.kw,xD,O
 erw[h,x,y,rfl,q];exists 3,%[|Oi]
 exact q
def OU:#[T,1,a.yx,a.yM,["self","project"],(C5 a.qq)]:=by
 exists 9,T.iq,jm
 erw[h,x,dx,px,rfl,hx,q];have hs:=uI;exists 3,%[#[Qm,pv 1],#[Qm,#[Q9,qd]],#[Qm,ZW],#[Qm,ZW]|#[Qm,ZW]]
 exists 0,0,x,_,dx,0,hx,T.qy,T.Qk,()
 exists (sml rfl),λl1 h1=>?_;have n1:x≠l1:=qk qg h1
 exists 5
 refine⟨0,x,_,dx,0,(qj n1).trans qg,T.qy,T.QE,by show 1<1000;decide,?_⟩
 intro l2 h2;have U:x≠l2:=qk qg h2
 exists 5
 refine⟨0,x,_,dx,0,(qj U).trans qg,T.qy,T.QA,by show 2<1000;decide,?_⟩
 intro Z h3;have n3:x≠Z:=qk qg h3
 exists 5
 refine⟨0,x,_,dx,0,(qj n3).trans qg,T.qy,T.Ql,by show 3<1000;decide,?_⟩
 intro l4 h4;have n4:x≠l4:=qk qg h4
 exists 5
 refine⟨0,x,_,dx,0,(qj n4).trans qg,T.qy,T.QD,by show 4<1000;decide,?_⟩
 rw[qj n1.symm] at h1;have O:l2≠l1:=λz=>by rw[z,qj n1.symm,qg] at h2;cases h2
 have k2:H l2=none:=by rwa[qj U.symm,qj O,qj U.symm] at h2
 have aa:Z≠l2:=λz=>by rw[z,qj U.symm,qg] at h3;cases h3
 have ac:Z≠l1:=λz=>by rw[z,qj n1.symm,qj O.symm,qj n1.symm,qg] at h3;cases h3
 have k3:H Z=none:=by rwa[qj n3.symm,qj aa,qj n3.symm,qj ac,qj n3.symm] at h3
 have ad:l4≠Z:=λz=>by rw[z,qj n3.symm,qg] at h4;cases h4
 have ae:l4≠l2:=λz=>by rw[z,qj U.symm,qj aa.symm,qj U.symm,qg] at h4;cases h4
 have af:l4≠l1:=λz=>by rw[z,qj n1.symm,qj ac.symm,qj n1.symm,qj O.symm,qj n1.symm,qg] at h4;cases h4
 have k4:H l4=none:=by rwa[qj n4.symm,qj ad,qj n4.symm,qj ae,qj n4.symm,qj af,qj n4.symm] at h4
 have kp:∀b ob,H b=u_ ob->b≠x->(upd (upd (upd (upd (upd (upd (upd (upd (upd H x (.ins a.qq dx (iF "given_project" (V.ref px) []))) l1 (.lst [])) x (.ins a.qq dx (iF "stack" (V.ref l1) (iF "given_project" (V.ref px) [])))) l2 (.dK [])) x (.ins a.qq dx (iF "under_way" (V.ref l2) (iF "stack" (V.ref l1) (iF "given_project" (V.ref px) []))))) Z (.dK [])) x (.ins a.qq dx (iF "full_runs" (V.ref Z) (iF "under_way" (V.ref l2) (iF "stack" (V.ref l1) (iF "given_project" (V.ref px) [])))))) l4 (.dK [])) x (.ins a.qq dx (iF "found" (V.ref l4) (iF "full_runs" (V.ref Z) (iF "under_way" (V.ref l2) (iF "stack" (V.ref l1) (iF "given_project" (V.ref px) []))))))) b=u_ ob:=λb ob h nb=>by
  rwa[qj nb,qj (qk h k4),qj nb,qj (qk h k3),qj nb,qj (qk h k2),qj nb,qj (qk h h1),qj nb]
 refine q ⟨x,dx,px,l1,l2,Z,l4⟩ _ rfl rfl rfl kp ?_ h1 k2 k3 k4 ?_ ?_ ?_ ?_ ?_ ?_
 ·exists 5
  refine[λb xs e=>kp b _ e (λz=>?_):λb xs e=>[xs:kp b _ e (λz=>?_)]:λb xs e=>[xs:kp b _ e (λz=>?_)]]<;>(rw[z,hx] at e;cases e)
 ·simp![U5,uG,uH,uS,V3,UW,U0,and_true];exact[[O.symm:ac.symm:af.symm]:[aa.symm:ae.symm]:ad.symm]
 ·exact qg
 ·rw[qj n1.symm,qj af.symm,qj n1.symm,qj ac.symm,qj n1.symm,qj O.symm,qj n1.symm];exact qg
 ·rw[qj U.symm,qj ae.symm,qj U.symm,qj aa.symm,qj U.symm];exact qg
 ·rw[qj n3.symm,qj ad.symm,qj n3.symm];exact qg
 ·rw[qj n4.symm];exact qg
def Ld:#[T,2,a.yN,a.jj,["self","project"],(C5 a.qq)]:=by
 have U:=#[OU,T];exists 9,T.lz,Xr,Z
 erw[h,x,dx,px,rfl,O,q];exists 3,%[|#[Qd,#[Qf,20,pv 0,T.qy,T.iq.h,U,Z.mono (),T.iq.b,.nil,qA,#v[pv 1],_,_,_]]]
 exact⟨0,x,dx,0,O,1,0,x,dx,px,1,O,q⟩
def AX:#[T,2,a.yz,a.yD,["self","name"],(Me a.qq a.qJ)]:=by
 have qV:=#[jK,T];have ZP:=#[OG,T];exists 9,T.ic,yu
 erw[h,o,m,qs,S,uk,fk,rfl,hO,hq,hG,ac,hU,aa,hF,hl,Z,k];have hs:=uI;exists 3,%[#[qI,#[AQ,6,#[Dp,5,yb hr,pv 1,#[qO,5,pv 0,rfl]],_],%[|#[qp,#[qB,#v[ql]]]],qr],#[qG,(2),yu.nd,#[qv,ZP,T.lJ,#v[#[Qf,#[qO,5,pv 0,rfl],T.Q3,T.ii,qV,#v[pv 1]]]]],#[qI,#[qm,Wb,pv 2,qT],%[|#[Xh,pv 1,pv 2]],qr]|#[qp,#[AV,7,yb hr,#[qO,5,pv 0,rfl],pv 1,⟨1,1,1,1⟩]]]
 exists 0,0,o.x,_,o.dx,_,0,hO.e,T.qy,T.QA,OW o,o.du,0,m9.k (k:=Va m) ac,0;rw[hU m];by_cases c:m∈S.stk.map (·.1)
 ·have ey:Sy.yet S m=u_ none:=by unfold Sy.yet;rw[A3 c]
  refine ld (A6 c) [(sml rfl):λt ht=>?_];have s1:=qf ht (.tup [V.str "ring"]);refine k _ _ fk (Kp.of s1) (s1 _ _ aa) (hF.mono s1.tk) (Gm _) (λ_=>rfl) ?_;unfold sw;rw[ey];exact⟨_,Is.new (ds:= [.str "ring"]) ⟨_,0,Yb (),1⟩ ht,⟨"ring",[],1,(),()⟩,λz=>A7 c z⟩
 refine iL (ue c) ?_
 exists 0,o.x,_,o.dx,_,0,hO.e,T.qy,T.Qk,OY o;erw[id hO.p,ad,dp,op,ah,hx,hd,hk,hv]
 exists o.px,ad,0,hx,Ye,0,o.px,m,qs,1,hO.p,λv h1 h2=>?_;have ae:Is H (qH qs m) v:=by
  by_cases cm:m∈qs.map (·.1)
  ·exact h1 cm
  ·rw[h2 cm,Y3 cm];exact rfl
 exists v,qH qs m,1,ae,?_,λu H1 s1 hu=>?_
 ·by_cases cm:m∈qs.map (·.1)
  ·erw[jU hq cm,_,k,e,hd,_];exact .inr [k:e:hd]
  ·exact .inl (Y3 cm)
 have O:=s1 _ _ aa
 exists 0,1,0;cases hg:g0D m (qH qs m) with
 |none=>
  erw[ZT hq hg,l,e1,e2,e3];rw[e1] at hu;have af:u≠ .non:=YL hu (by intro z;cases z)
  have ey:Sy.yet S m=u_ (u_ (zr (qH qs m))):=by have U:=hg;unfold Sy.yet;rw[A2 c,show(SyP qs).g0 m=_ from U];rfl
  refine ld (by simp[af]) ?_
  have kp:Kp [o.df] H (upd H1 o.df (.dK (l8 fk (Va m) u))):=(Kp.of s1).trans (Kp.updD O uj)
  exists 0,0,o.x,_,o.dx,_,0,s1 _ _ hO.e,T.qy,T.QD,Lu o,0,o.df,0,Il.k (k:=Va m) O ()
  have ag:=hO.kp kp (by intro p hp;cases Aa.mp hp;exact .inr (.inl [_:aa]))
  exists 0,o.x,_,o.dx,_,0,ag.e,T.qy,T.QD,Lu o,o.df,1,.inl [_:.inl qg],0,_,m9.k (k:=Va m) qg;rw[XQ,A3 rfl];refine k _ _ _ kp qg ?_ (yU _ _ _) (λz=>by rw[ey] at z;cases z) ?_
  ·intro m' g' U;rw[XQ,A2 (λz=>by injection z with z;rw[z,hg] at U;cases U)]
   exact(hF.mono kp.tk) m' g' U
  ·unfold sw;rw[ey];exact⟨_,(hu.mono (Tk.updD O)),e2,λ_=>⟨e3,by unfold Abq;rw[hg];exact e1.symm⟩⟩
 |some g=>
  rw[Oq hq hg] at hu;cases(show u= .non from hu)
  refine iL (by simp) ?_
  exists 0,o.x,_,o.dx,_,0,s1 _ _ hO.e,T.qy,T.QD,Lu o,o.df,1,.inl [_:.inl O],0,_,m9.k (k:=Va m) O;refine k _ _ fk (Kp.of s1) O (hF.mono s1.tk) (Gm _) (λ_=>rfl) ?_;have ey:Sy.yet S m=(Sy.Yd S.don m).map λg=>(YJ g).map some:=by have U:=hg;unfold Sy.yet;rw[A2 c,show(SyP qs).g0 m=_ from U];rfl
  erw[hF m g hg,f1,f2];unfold sw;rw[ey];cases hd:Sy.Yd S.don m with
  |none=>
   rw[f2 hd];exact rfl
  |some g'=>
   erw[f1 g' hd,y,e1,e2];rw[e1];exact⟨_,e2.mono s1.tk,Abo (hG (m,g') (.inr (Sy.Xx hd))).1 (Z (m,g') (Sy.Xx hd)),λ_=>⟨PH (hG (m,g') (.inr (Sy.Xx hd))).1 (Z (m,g') (Sy.Xx hd)),by unfold Abq;rw[hg,hd];rfl⟩⟩
structure mZ (g:Gc)(s:Gs)(p:Gp):Prop where
 n:g.n=p.n
 mb:s.mb=p.mb
 ra:s.ra=p.ra
 run:(s.run.map λq=>(q.1.rs,q.2))=p.run
 own:∀mc r,s.run=u_ (mc,r)->mc.own=g.n
 en:s.en=p.en.getD .non
nonrec def Sj:om (Mc×Rn)->oj o3
 |none=> []
 |some (mc,_)=> [mc.x,mc.db,mc.dg]
nonrec def plc (g:Gc)(s:Gs):oj o3:=g.x::Sj s.run
def mZ.none {g:Gc}{s:Gs}{p:Gp}(h:mZ g s p)(e:p.run=U_):s.run=none:=by
 have:=h.run;rw[e] at this;cases O:s.run with
 |none=>rfl
 |some q=>rw[O] at this;cases this
def mZ.some {g:Gc}{s:Gs}{p:Gp}(h:mZ g s p){rs:oj Rw}{r:Rn}(e:p.run=u_ (rs,r)):∃mc:Mc,s.run=u_ (mc,r)/\mc.rs=rs/\mc.own=g.n:=by
 have:=h.run;rw[e] at this;cases O:s.run with
 |none=>rw[O] at this;cases this
 |some q=>
  erw[q,mc,r'];rw[O] at this;cases this;exact⟨mc,1,1,h.own mc r' O⟩
variable {CM:o3}
def lY.frame {g:Gc}{s:Gs}(h:lY C CM H g s)(O:∀b∈plc g s,∀ob,H b=u_ ob->H' b=u_ ob)(t:Tk H H'):lY C CM H' g s:=by
 erw[h,dx,fs,mv,av,rv,ev,e,f,i,j,k,l];exists dx,fs,mv,av,rv,ev,O _ uj _ e,f,i.mono t,j.mono t,?_,l.mono t;cases U:s.run with
 |none=>rwa[U] at k
 |some q=>
  erw[q,mc,r];have hp:plc g s= [g.x,mc.x,mc.db,mc.dg]:=by unfold plc Sj;rw[U]
  rw[hp] at O;rw[U] at k;erw[k,k1,k2,dm,fm,Z,ru,tv,gv,em,aa,i1,i2,[bf,ib,jb],i4,i5,i6];exact⟨k1,k2,dm,fm,Z,ru,tv,gv,O _ (by simp) _ em,aa,i1.mono t,i2.mono t,⟨bf,O _ (by simp) _ ib,λz hz=>(jb z hz).mono t⟩,O _ (by simp) _ i4,i5.mono t,i6.mono t⟩
def lY.there {g:Gc}{s:Gs}(h:lY C CM H g s):∀b∈plc g s,∃ob,H b=u_ ob:=by
 erw[h,dx,fs,mv,av,rv,ev,e,f,i,j,k,l];intro b O;rcases A9.mp O with rfl|O
 ·exact[_:e]
 ·cases U:s.run with
  |none=>rw[U] at O;cases O
  |some q=>
   erw[q,mc,r];rw[U] at O k;erw[k,k1,k2,dm,fm,Z,ru,tv,gv,em,aa,i1,i2,[bf,ib,jb],i4,i5,i6];simp![Sj,uG,uH,uS] at O;rcases O with rfl|rfl|rfl
   ·exact[_:em]
   ·exact[_:ib]
   ·exact[_:i4]
def Ic {g:Gc}{d:D}{s s':Gs}{p:Gp}(b:L6 H g d s s')(h:mZ g s p)(U:p.run=U_)(he:p.en=U_):mZ g s' (me p d)/\∀c∈plc g s',c=g.x∨H c=none:=by
 have hr:=h.none U;have Z:s.en= .non:=by rw[h.en,he];rfl
 have nil:s'.run=U_->∀c∈plc g s',c=g.x∨H c=none:=λe c O=>by
  unfold plc at O;rw[e] at O;rcases A9.mp O with z|z
  ·exact .inl z
  ·cases z
 unfold me;by_cases c:d= .non
 ·erw[b.lack c,b1,b2];rw[A3 (by rw[c];rfl)]
  exact⟨⟨h.n,b.mb.trans h.mb,b.ra.trans h.ra,(by show _=p.run;rw[b1,U];rfl),(λmc r e=>by rw[b1] at e;cases e),b2⟩,nil b1⟩
 ·rw[A2 (λz=>c (by cases d with|non=>rfl|_=>cases z))]
  cases hd:QI d with
  |none=>
   erw[b.rule c hd,b1,b2];exact⟨⟨h.n,b.mb.trans h.mb,b.ra.trans h.ra,(by show _=p.run;rw[b1,U];rfl),(λmc r e=>by rw[b1] at e;cases e),b2⟩,nil b1⟩
  |some rs=>
   erw[b.go rs hd,mc,c1,c2,c3,c4,c5,c6,c7];exists ⟨h.n,b.mb.trans h.mb,b.ra.trans h.ra,?_,λaa r e=>?_,?_⟩,λc O=>?_
   ·rw[c6];show u_ (mc.rs,R0 rs g.n)=u_ (rs,R0 rs p.n);rw[c4,h.n]
   ·rw[c6] at e;cases e;exact c5
   ·rw[c7,h.n,Z];show _=(mV (R0 rs p.n)).getD .non;unfold mV;split<;>rfl
   ·unfold plc at O;rw[c6] at O;simp![Sj,uG,uH,uS] at O;rcases O with z|rfl|rfl|rfl
    ·exact .inl z
    ·exact .inr c1
    ·exact .inr c2
    ·exact .inr c3
nonrec def nT:om (oj Rw×Rn)->oj D
 |none=> []
 |some (_,r)=>r.gs
nonrec def JM (p:Gp):D:= .tup [.tup (p.ra++nT p.run),p.en.getD .non]
def Bu {g:Gc}{s:Gs}{p:Gp}(h:mZ g s p):LN s=JM p:=by
 unfold LN JM;rw[h.ra,h.en];have e:Aai s.run=nT p.run:=by
  rw[<-h.run];cases s.run with
  |none=>rfl
  |some q=>rfl
 rw[e]
def LM {p:Gp}(h:GI p):↑p.ra+↑(nT p.run)<=1000:=by
 have h1:=h.ra.2.2;cases O:p.run with
 |none=>show _+0<=1000;omega
 |some q=>
  erw[q,rs,r];have h2:=(h.run rs r O).2.1;have h3:=h2.gs.2.2;have h4:=h2.n;show _+↑r.gs<=1000;omega
inductive IK (CO CP CG CM:Addr):Sp
 |mk (o:Oc)(m:Str)(qs:List (Str×D))(xs:List V)(uk:List (Key×V))(p:Gp)(_:vs= [.ref o.x,.str m])(_:OAt CO CP H o qs)(_:Qi qs)(_:H o.ls=u_ (.lst xs))(_:↑xs<=100000)(_:H o.du=u_ (.dK uk))(_:↑uk<=100000)(_:g0D m (qH qs m)=u_ p)(_:∀(g:Gc)(s:Gs)(H':Hp),Kp [o.ls,o.du] H H'->H' o.ls=u_ (.lst (xs++ [.ref g.x]))->H' o.du=u_ (.dK (l8 uk (Va m) (.bl v_)))->lY CG CM H' g s->mZ g s p->g.o=o.x->(∀b∈plc g s,H b=U_)->Q .non H')
inductive CV (CO CP CG CM:Addr):Sp
 |mk (o:Oc)(qs:List (Str×D))(g:Gc)(s:Gs)(p:Gp)(rk fk:List (Key×V))(_:vs= [.ref o.x,.ref g.x])(_:OAt CO CP H o qs)(_:lY CG CM H g s)(_:mZ g s p)(_:GI p)(_:p.en.isSome=v_)(_:H o.dr=u_ (.dK rk))(_:↑rk<=100000)(_:H o.df=u_ (.dK fk))(_:↑fk<=100000)(_:o.dr≠o.df)(_:o.dr∉plc g s)(_:o.df∉plc g s)(_:∀(v1 v2:V)(H':Hp),Kp [o.dr,o.df] H H'->H' o.dr=u_ (.dK (l8 rk (Va g.n) v1))->Is H' (JM p) v1->H' o.df=u_ (.dK (l8 fk (Va g.n) v2))->Is H' (qU (p.en.getD .non)) v2->Q .non H')
def Lm:#[C,12,a.Y1,a.Y7,["self","name"],(IK a.qq a.qJ a.qL a.qo)]:=by
 have qV:=#[jK,T];have O:=#[Lj,T,C];exists 9,T.iI,xJ
 erw[h,o,m,qs,xs,uk,p,rfl,hO,hq,U,ap,Z,aq,hp,k];have hs:=uI;exists 3,%[#[Qd,#[jk,uW,vz,vA,Yz,#[qO,5,pv 0,rfl],#v[#[wn,T.M_Going,O,T.m_Going,T.my,qA,#v[pv 1,#[Qf,#[qO,5,pv 0,rfl],T.Q3,T.ii,qV,#v[pv 1]],pv 0]]]]]|#[Xh,pv 1,YV]]
 exists 0,o.x,_,o.dx,_,0,hO.e,T.qy,T.QE,Lr o,.inl [1:_:SqL.of U]
 exists 0,0,o.x,_,o.dx,_,0,hO.e,T.qy,T.Qk,OY o;erw[id hO.p,ak,dp,op,au,hx,hd,hk,hv]
 exists o.px,ak,0,hx,Ye,0,o.px,m,qs,1,hO.p,λsv h1 h2=>?_;have hm:m∈qs.map (·.1):=(Qs qs).gn m p hp;have af:=h1 hm;erw[jU hq hm,hn,kk,e,al,g1,g2];rw[al] at af hp
 exists 0,λx dx aa ag nx=>?_;have s0:ia H (upd (upd H dx (.own x)) x (.ins a.qL dx [])):=λb o h=>by rwa[qj (qk h aa),qj (qk h ag)]
 have nox:o.x≠x:=qk hO.e aa
 exists x,dx,o.x,m,kk,sv,e,1,qg,af.mono s0.tk,hn,nox,⟨_,_,s0 _ _ hO.e,zV o _ ()⟩,λH1 s1 am aw G1 b1 b2=>[1:?_]
 have ac:ia H H1:=λb ob h=>am b ob (s0 b ob h) (qk h aa);have rel:mZ ⟨x,o.x,m⟩ s1 p/\∀c∈plc ⟨x,o.x,m⟩ s1,H c=none:=by
  unfold g0D at hp;simp only at hp;split at hp
  ·cases hp
  ·split at hp
   ·rename_i c
    cases hp;have e1:=b1 c;rw[e1]
    exists ⟨1,1,1,1,(λ_ _ z=>by cases z),1⟩,λc hc=>?_
    rcases A9.mp hc with rfl|hc
    ·exact aa
    ·cases hc
   ·rename_i c
    cases hp;obtain⟨r1,r2⟩:=Ic (p:=⟨m,.non,[],U_,U_⟩) (b2 c) ⟨1,1,1,1,(λ_ _ z=>by cases z),1⟩ rfl rfl
    exists r1,λc hc=>?_;rcases r2 c hc with rfl|hc
    ·exact aa
    ·exact s0.free hc
 exists o.ls,xs,0,1,ac _ _ U,()
 have ah:Kp [o.ls,o.du] H1 (upd H1 o.ls (.lst (xs++ [.ref x]))):=⟨λb ob h n=>by rw[qj (λz=>n (by rw[z];exact uj))];exact h,jA.tk (p:=o.ls) (λb ob h n=>by rwa[qj n]) (ac _ _ U) qg⟩
 have n1:o.du≠o.ls:=λz=>by rw[z,U] at Z;cases Z
 have ad:upd H1 o.ls (.lst (xs++ [.ref x])) o.du=u_ (.dK uk):=by rw[qj n1];exact ac _ _ Z
 have n2:o.x≠o.ls:=λz=>by have:=hO.e;rw[z,U] at this;cases this
 have n3:o.x≠o.du:=λz=>by have:=hO.e;rw[z,Z] at this;cases this
 exists 0,o.x,_,o.dx,_,0,(by rw[qj n2];exact ac _ _ hO.e),T.qy,T.QA,OW o,0,o.du,0,Il.k (k:=Va m) ad ()
 have ao:=((Kp.of (L:= [o.ls,o.du]) ac).trans ah).trans (Kp.updD (ys:=l8 uk (Va m) (.bl v_)) ad (ui _ uj));refine k [x:o.x:m] s1 _ ao (by rw[qj n1.symm];exact qg) qg (G1.frame (λb hb ob h=>?_) ((ah.trans (Kp.updD (ys:=l8 uk (Va m) (.bl v_)) ad (ui _ uj)))).tk) rel.1 rfl rel.2
 have ae:=rel.2 b hb;have m1:b≠o.ls:=λz=>by rw[z,U] at ae;cases ae
 have m2:b≠o.du:=λz=>by rw[z,Z] at ae;cases ae
 rw[qj m2,qj m1];exact h
def DE:#[T,3,a.YK,a.YN,["self","going"],(CV a.qq a.qJ a.qL a.qo)]:=by
 have O:=#[OQ,T];have U:=#[Lq,T];have XV:=#[Lg,T];exists 9,T.iT,xc
 erw[h,o,qs,g,st,p,rk,fk,rfl,hO,hG,hR,hI,ae,ac,ay,af,aA,ag,nr,nf,k];have hs:=uI;exists 3,%[#[Xh,#[qO,5,pv 1,rfl],#[QR,pv 1,T.qQ,T.mz,O]],#[Xh,#[qO,5,pv 1,rfl],#[qv,U,T.mL,#v[#[qO,5,pv 1,rfl]]]]|#[Qd,#[Qf,pv 0,T.qy,T.kw,XV,#v[pv 1]]]]
 erw[id hG,dx,fs,mv,av,rv,ev,e,f,i,j,aB,l];have aw:o.dr≠g.x:=λz=>nr (by rw[z];exact uj)
 have aC:o.df≠g.x:=λz=>nf (by rw[z];exact uj)
 have ah:o.x≠o.dr:=λz=>by have:=hO.e;rw[z,ac] at this;cases this
 have ak:o.x≠o.df:=λz=>by have:=hO.e;rw[z,af] at this;cases this
 have al:↑(Aai st.run)=↑(nT p.run):=by
  have:=Bu hR;unfold LN JM at this;simp![D.tup.injEq,UQ] at this;have:=this.1;rw[hR.ra] at this;rw[List.append_cancel_left this]
 exists 0,g.x,dx,fs,1,e,f.meth _ (),g,st,1,hG,(by rw[hR.ra,al];exact LM hI),λv1 H1 s1 i1=>?_
 rw[Bu hR] at i1
 exists 0,o.x,_,o.dx,_,0,s1 _ _ hO.e,T.qy,T.Ql,Ls o,0,g.x,_,dx,fs,0,s1 _ _ e,T.qQ,T.y9,f.Zk,o.dr,0,Il.k (k:=Va g.n) (s1 _ _ ac) ()
 have ad:Kp [o.dr,o.df] H (upd H1 o.dr (.dK (l8 rk (Va g.n) v1))):=(Kp.of s1).trans (Kp.updD (s1 _ _ ac) uj);generalize Z:upd H1 o.dr (.dK (l8 rk (Va g.n) v1))=H2 at ad⊢;have am:H2 o.dr=u_ (.dK (l8 rk (Va g.n) v1)):=by rw[<-Z];exact qg
 have e2:H2 g.x=u_ (.ins a.qL dx fs):=by rw[<-Z,qj aw.symm];exact s1 _ _ e
 have ao:H2 o.x=u_ (.ins a.qq o.dx (ofs o)):=by rw[<-Z,qj ah];exact s1 _ _ hO.e
 have aa:H2 o.df=u_ (.dK fk):=by rw[<-Z,qj ag.symm];exact s1 _ _ af
 have i2:Is H2 (JM p) v1:=i1.mono (by rw[<-Z];exact Tk.updD (s1 _ _ ac))
 have l2:Is H2 (p.en.getD .non) ev:=by rw[<-hR.en];exact l.mono ad.tk
 obtain⟨kk,ee,ap⟩:∃kk ee,p.en.getD .non= .tup [.str kk,ee]:=by
  cases aq:p.en with
  |none=>rw[aq] at ae;cases ae
  |some d=>
   rcases hI.en d aq with⟨z,rfl⟩|⟨x,rfl,_⟩|⟨z,rfl⟩
   ·exact[_:0]
   ·exact[_:0]
   ·exact[_:0]
 exists 0,g.x,_,dx,fs,0,e2,T.qQ,T.Q4,f.f_end,ev,kk,ee,1,(by rwa[<-ap]),λv2 H3 s3 i3=>?_
 rw[<-ap] at i3
 exists 0,o.x,_,o.dx,_,0,s3 _ _ ao,T.qy,T.QD,Lu o,0,g.x,_,dx,fs,0,s3 _ _ e2,T.qQ,T.y9,f.Zk,o.df,0,Il.k (k:=Va g.n) (s3 _ _ aa) ()
 have au:Tk H3 (upd H3 o.df (.dK (l8 fk (Va g.n) v2))):=Tk.updD (s3 _ _ aa);have ax:Kp [o.dr,o.df] H (upd H3 o.df (.dK (l8 fk (Va g.n) v2))):=(ad.trans (Kp.of s3)).trans (Kp.updD (s3 _ _ aa) (ui _ uj))
 exists 0,o.x,o.dx,0,(by rw[qj ak];exact s3 _ _ ao),zV o _ (),0,_,0
 exact k v1 v2 _ ax (by rw[qj ag];exact s3 _ _ am) (i2.mono (s3.tk.trans au)) qg (i3.mono au)
end
variable {v:V}
def Wl:Vz ("looked_up":Str) [(("by_name":Str),v)]=none:=by rfl
def Adh (k:Str):inV (V.str k) [V.str "has",V.str "names"]=mM k:=by
 have h:=jd k ["has","names"];refine h.trans ?_;unfold mM;rw[<-Bool.decide_or,vc];simp
section
variable {C CM CO:o3}{H:Hp}{g:Gc}{s:Gs}{p:Gp}{Q:VK}{E:XK}
def MY (G:lY C CM H g s)(R:mZ g s p)(I:GI p)(O:p.en=U_)(U:yJ p=u_ m)(k:∀kd v H',ia H H'->mM kd=V6->Is H' (.tup [.str kd,.str m]) v->Q v H'):X7 C CM [.ref g.x] H Q E:=by
 erw[WI I O U,hn,h];exists g,s,1,G;rcases h with⟨h1,h2⟩|⟨rs,r,h1,h2⟩
 ·exact .inl ⟨R.none h1,m,by rw[R.mb,h2],λv H' s' i=>k _ v H' s' () i⟩
 ·erw[R.some h1,mc,Z,e2,e3];exact .inr ⟨mc,r,_,Z,h2,λv i=>k _ v H (ia.refl _) () i⟩
def Iq (G:lY C CM H g s)(R:mZ g s p)(I:GI p)(O:p.en=U_)(U:yJ p=U_)(k:∀rs r kd z v,p.run=u_ (rs,r)->r.th= .tup [.str "asks",.tup [.str kd,.str z]]->mM kd=v_->isT (.str z)=v_->na qs p=QX p (YX qs kd z)->Is H (.tup [.str kd,.str z]) v->Q v H):X7 C CM [.ref g.x] H Q E:=by
 erw[jL (qs:=qs) I O U,rs,r,kd,z,h1,h2,h3,h4,h5];erw[R.some h1,mc,Z,e2,e3];exact⟨g,s,1,G,.inr ⟨mc,r,_,Z,h2,λv i=>k rs r kd z v h1 h2 h3 h4 h5 i⟩⟩
def CC (G:lY C CM H g s)(R:mZ g s p)(I:GI p)(Z:p.en=U_){d:D}{v:V}(hv:Is H d v)(U:∀rs r,p.run=u_ (rs,r)->∃u q,r.th= .tup [.str "asks",.tup [.str u,q]]/\BL u d=v_)(aa:g.o≠g.x)(ho:∃dx fs,H g.o=u_ (.ins CO dx fs)/\fs.lookup ("runner":Str)=U_)
  (k:∀H' s',Gw g s.run H H'->lY C CM H' g s'->mZ g s' (QX p d)->(∀b∈plc g s',b∈plc g s∨H b=U_)->Q .non H'):XC C CM CO [.ref g.x,v] H Q E:=by
 refine⟨g,s,v,d,1,G,by rw[R.n];exact I.n,hv,aa,ho,?_⟩
 cases O:p.run with
 |none=>
  erw[I.no O Z,z,hz,_];have hr:=R.none O;refine .inl ⟨hr,z,by rw[R.mb,hz],λH' s' w G' b=>?_⟩
  obtain⟨r1,r2⟩:=Ic (p:=⟨p.n,p.mb,[.tup [.tup [.str "rule",p.mb],d]],U_,U_⟩) b ⟨R.n,R.mb,(by show _= [D.tup [.tup [.str "rule",p.mb],d]];rw[hz]),(by show s.run.map _=U_;rw[hr];rfl),R.own,(by show s.en= .non;rw[R.en,Z];rfl)⟩ rfl rfl
  refine k H' s' w G' ?_ λc hc=>?_
  ·have:QX p d=me ⟨p.n,p.mb,[.tup [.tup [.str "rule",p.mb],d]],U_,U_⟩ d:=by
    unfold QX;rw[O];show me ⟨p.n,p.mb,_,U_,p.en⟩ d=_;rw[Z]
   rwa[this]
  ·rcases r2 c hc with rfl|h
   ·exact .inl uj
   ·exact .inr h
 |some q=>
  erw[q,rs,r];erw[R.some O,mc,e1,e2,e3];erw[I.run rs r O,k1,k2,k3,k4];erw[U rs r O,u,q,h1,h2];subst e2;refine .inr ⟨mc,r,u,q,e1,e3,k1,k2,h1,h2,λH' w G'=>?_⟩;have ee:QX p d={p with run:=u_ (mc.rs,mo mc.rs p.n r d),en:=mV (mo mc.rs p.n r d)}:=by unfold QX;rw[O]
  refine k H' _ w G' ?_ ?_
  ·rw[ee,e3,R.n];unfold oF mV;by_cases c:QK (mo mc.rs p.n r d).th=v_
   ·rw[A3 c,A3 c];exact⟨R.n,R.mb,R.ra,1,(λac r' z=>by cases z;exact e3),(by show s.en= .non;rw[R.en,Z];rfl)⟩
   ·rw[A2 c,A2 c];exact⟨R.n,R.mb,R.ra,1,(λac r' z=>by cases z;exact e3),1⟩
  ·intro b hb;left;unfold plc at hb⊢;rw[e1];unfold oF at hb;split at hb<;>exact hb
end
nonrec def LO (o:Oc):oj o3:= [o.ls,o.du,o.dr,o.df]
structure Bs (CO CP:o3)(H0:Hp)(o:Oc)(qs:oj (Str×D)):Prop where
 oa:OAt CO CP H0 o qs
 ls:∃xs,H0 o.ls=u_ (.lst xs)
 du:∃xs,H0 o.du=u_ (.dK xs)
 dr:∃xs,H0 o.dr=u_ (.dK xs)
 df:∃xs,H0 o.df=u_ (.dK xs)
 nd:(LO o).Nodup
 q:Qi qs
section
variable {CO CP:o3}{H0 H H':Hp}{o:Oc}{qs:oj (Str×D)}
def Bs.at (b:Bs CO CP H0 o qs)(k:Kp (LO o) H0 H):OAt CO CP H o qs:=b.oa.kp k (by
 intro p O;simp![LO,uG,uH,uS] at O;rcases O with rfl|rfl|rfl|rfl
 ·exact .inl b.ls
 ·exact .inr (.inl b.du)
 ·exact .inr (.inl b.dr)
 ·exact .inr (.inl b.df))
def Bs.new (b:Bs CO CP H0 o qs){c:o3}(h:H0 c=U_):c≠o.x/\c≠o.ls/\c≠o.du/\c≠o.dr/\c≠o.df:=by
 erw[b.ls,_,h1];erw[b.du,_,h2];erw[b.dr,_,h3];erw[b.df,_,h4];exact⟨(qk b.oa.e h).symm,(qk h1 h).symm,(qk h2 h).symm,(qk h3 h).symm,(qk h4 h).symm⟩
def Bs.nlo (b:Bs CO CP H0 o qs){c:o3}(h:H0 c=U_):c∉LO o:=by
 erw[b.new h,_,h1,h2,h3,h4];simp![LO,uG,uH,uS,V3];exact⟨h1,h2,h3,h4⟩
def sW (b:Bs CO CP H0 o qs)(k:Kp (LO o) H0 H)(h:∀c ob,H c=u_ ob->c∉o.df::L->H' c=u_ ob)(t:Tk H H')(O:∀c∈L,H0 c=U_):Kp (LO o) H0 H':=⟨λc ob e n=>h c ob (k.kept c ob e n) (λz=>by
 rcases A9.mp z with rfl|z
 ·exact n (by simp[LO])
 ·rw[O c z] at e;cases e),k.tk.trans t⟩
end
section
variable {qs:oj (Str×D)}{n:Str}{p:Gp}{r don:oj (Str×Gp)}
def O2 (U:p.en=U_)(Z:yJ p=U_):Sy.nxt #[Y,(n,p)::r,don]=[(n,na qs p)::r:don]:=by
 have hf:(SyP qs).fin p=false:=by show p.en.isSome=V6;rw[U];rfl
 have O:(SyP qs).want p=none:=Z;unfold Sy.nxt;simp only;rw[hf,A2 uc,O]
 rfl
def AaL (U:p.en=U_)(Z:yJ p=u_ m){a:om D}(hy:Sy.yet #[Y,(n,p)::r,don] m=u_ (u_ a)):Sy.nxt #[Y,(n,p)::r,don]=[(n,QX p (a.getD .non))::r:don]:=by
 have hf:(SyP qs).fin p=false:=by show p.en.isSome=V6;rw[U];rfl
 have O:(SyP qs).want p=u_ m:=Z;unfold Sy.nxt;simp only;rw[hf,A2 uc,O];simp only;rw[hy]
 rfl
def O0 (U:p.en=U_)(Z:yJ p=u_ m)(hy:Sy.yet #[Y,(n,p)::r,don] m=u_ U_):Sy.nxt #[Y,(n,p)::r,don]=[(n,Sh p m)::r:don]:=by
 have hf:(SyP qs).fin p=false:=by show p.en.isSome=V6;rw[U];rfl
 have O:(SyP qs).want p=u_ m:=Z;unfold Sy.nxt;simp only;rw[hf,A2 uc,O];simp only;rw[hy]
 rfl
def Lv (Z:p.en=U_)(hw:yJ p=u_ m)(U:Sy.yet #[Y,(n,p)::r,don] m=U_):∃p',g0D m (qH qs m)=u_ p'/\Sy.nxt #[Y,(n,p)::r,don]=[(m,p')::(n,p)::r:don]:=by
 have hf:(SyP qs).fin p=false:=by show p.en.isSome=V6;rw[Z];rfl
 have O:(SyP qs).want p=u_ m:=hw;erw[Sy.jH U,_,[p',e],_];exists p',e;unfold Sy.nxt;simp only;rw[hf,A2 uc,O];simp only;rw[U];simp only;rw[e]
def O1 {d:D}(O:p.en=u_ d):Sy.nxt #[Y,(n,p)::r,don]=[r:don++ [(n,p)]]:=by
 have U:(SyP qs).fin p=true:=by show p.en.isSome=v_;rw[O];rfl
 unfold Sy.nxt;simp only;rw[U,A3 rfl]
 rfl
end
def kr {d:D}(h:X6 d):BL "thing" d=true:=by
 unfold BL;rcases h with rfl|h
 ·rfl
 ·cases hn:YI d with
  |true=>rfl
  |false=>
   rw[A2 uc,A3 h,A2 ()]
   rfl
structure Rnd {qs:oj (Str×D)}(CG CM:o3)(H0 H H1:Hp)(o:Oc)(S:Sy.Ss (SyP qs))(L0:oj o3)(g:Gc)(s1:Gs)(n:Str)(p1:Gp)(r:oj (Str×Gp))(fk1:oj (Key×V))(top:Nat):Prop where
 st:∃j,#[Y,(n,p1)::r,S.don]=Sy.nx S j
 len:↑fk1+Sy.mu #[Y,(n,p1)::r,S.don]<=top
 kp:∀b ob,H b=u_ ob->b∉o.df::L0->H1 b=u_ ob
 tk:Tk H H1
 df:H1 o.df=u_ (.dK fk1)
 fd:Cq H1 S fk1
 go:lY CG CM H1 g s1
 rel:mZ g s1 p1
 pl:∀b∈plc g s1,b∈L0∨H b=U_/\H0 b=U_
 gi:SGI #[Y,(n,p1)::r,S.don]
inductive Tm (CO CP CG CM:Addr):Sp
 |mk (H0:Hp)(o:Oc)(qs:List (Str×D))(g:Gc)(s:Gs)(n:Str)(p:Gp)(r don:List (Str×Gp))(uk fk:List (Key×V))(top:Nat)(_:vs= [.ref o.x,.ref g.x])(_:Bs CO CP H0 o qs)(_:Kp (LO o) H0 H)(_:H o.du=u_ (.dK uk))(_:PK #[Y,(n,p)::r,don] uk)(_:(∀q∈don,q.2.en.isSome=v_))(_:top<=100000)(_:g.o=o.x)(_:(∀b∈plc g s,H0 b=U_))(_:Rnd CG CM H0 H H o #[Y,(n,p)::r,don] (plc g s) g s n p r fk top)(_:∀(v:V)(H':Hp)(s':Gs)(p':Gp)(fk':List (Key×V)),Rnd CG CM H0 H H' o #[Y,(n,p)::r,don] (plc g s) g s' n p' r fk' top->((v= .non/\p'.en.isSome=v_)∨∃m,v= .str m/\p'.en=U_/\yJ p'=u_ m/\Sy.yet #[Y,(n,p')::r,don] m=U_)->Q v H')
def Rnd.more {qs:oj (Str×D)}{CG CM CO CP:o3}{H0 H H1 H2 H3:Hp}{o:Oc}{S:Sy.Ss (SyP qs)}{L0:oj o3}{g:Gc}{s1 s3:Gs}{n:Str}{p1 p3:Gp}{r:oj (Str×Gp)}{fk1 U:oj (Key×V)}{top:Nat}(b:Bs CO CP H0 o qs)(k0:Kp (LO o) H0 H)(hL:∀b∈L0,H0 b=U_)(h:Rnd CG CM H0 H H1 o S L0 g s1 n p1 r fk1 top)(k2:Kp [o.df] H1 H2)(f2:H2 o.df=u_ (.dK U))(d2:Cq H2 S U)(l2:↑U<=↑fk1+1)
  (ac:∀b ob,H2 b=u_ ob->b∉plc g s1->H3 b=u_ ob) (t3:Tk H2 H3) (G3:lY CG CM H3 g s3) (R3:mZ g s3 p3) (ae:∀b∈plc g s3,b∈plc g s1∨H2 b=U_) (e:Sy.nxt #[Y,(n,p1)::r,S.don]=[(n,p3)::r:S.don]):
  Rnd CG CM H0 H H3 o S L0 g s3 n p3 r U top/\Sy.mu #[Y,(n,p3)::r,S.don]<Sy.mu #[Y,(n,p1)::r,S.don]:=by
 have ad:=Sy.nxt_mu (Qs qs) (S:=#[Y,(n,p1)::r,S.don]) (by intro z;cases z)
 rw[e] at ad;have af:∀b∈plc g s1,H0 b=none:=λb hb=>(h.pl b hb).elim (hL b) (·.2);have nf:o.df∉plc g s1:=λz=>(b.new (af _ z)).2.2.2.2 rfl;have ag:∀b ob,H1 b=u_ ob->b∉o.df::plc g s1->H3 b=u_ ob:=λc ob q z=>ac c ob (k2.kept c ob q (λy=>z (by rw[Aa.mp y];exact uj))) (λy=>z (ui _ y))
 refine⟨⟨?_,by have:=h.len;omega,λc ob q z=>?_,(h.tk.trans k2.tk).trans t3,ac _ _ f2 nf,d2.mono t3,G3,R3,λc Z=>?_,?_⟩,ad⟩
 ·erw[h.st,j,hj];exact⟨j+1,by show _=Sy.nxt (Sy.nx S j);rw[<-hj,e]⟩
 ·refine ag c ob (h.kp c ob q z) λy=>?_;rcases A9.mp y with rfl|y
  ·exact z uj
  ·rcases h.pl c y with y|⟨y,_⟩
   ·exact z (ui _ y)
   ·rw[q] at y;cases y
 ·rcases ae c Z with Z|Z
  ·exact h.pl c Z
  ·have O:H1 c=none:=by
    cases hq:H1 c with
    |none=>rfl
    |some ob=>
     by_cases y:c=o.df
     ·rw[y,f2] at Z;cases Z
     ·rw[k2.kept c ob hq (λz=>y (Aa.mp z))] at Z;cases Z
   by_cases c0:c∈L0
   ·exact .inl c0
   ·right;have aa:H c=none:=by
     cases hq:H c with
     |none=>rfl
     |some ob=>
      by_cases y:c=o.df
      ·rw[y,h.df] at O;cases O
      ·rw[h.kp c ob hq (λz=>by rcases A9.mp z with z|z;exact y z;exact c0 z)] at O;cases O
    exists aa;cases hq:H0 c with
    |none=>rfl
    |some ob=>
     by_cases y:c∈LO o
     ·have:=sW b k0 h.kp h.tk hL;simp![LO,uG,uH,uS] at y;have keep:∀x,(∃xs,H0 x=u_ (.lst xs))∨(∃xs,H0 x=u_ (.dK xs))->H1 x≠none:=λx hx hn=>by
       rcases hx with⟨xs,hx⟩|⟨xs,hx⟩
       ·erw[this.tk.lst x xs hx,ys,hy];rw[hy] at hn;cases hn
       ·erw[this.tk.dct x xs hx,ys,hy];rw[hy] at hn;cases hn
      rcases y with rfl|rfl|rfl|rfl
      ·exact A7 O (keep _ (.inl b.ls))
      ·exact A7 O (keep _ (.inr b.du))
      ·exact A7 O (keep _ (.inr b.dr))
      ·exact A7 O (keep _ (.inr b.df))
     ·rw[k0.kept c ob hq y] at aa;cases aa
 ·have:=DT b.q h.gi;rwa[e] at this
section
variable {P:o9}{w:og}{K:o0}{mg:Str->om o6}{base:o8}{a:Ad}{g:Ga}
def AaI:#[C,11,a.Y0,a.Y6,["self","going"],(Tm a.qq a.qJ a.qL a.qo)]:=by
 have Wz:=#[DB,T];have Jz:=#[Li,T,C];have yn:=#[oz,T];have qP:=#[AX,T];exists 9,T.ky,yl
 erw[h,H0,o,qs,Z,st,n,p,r,don,uk,fk,top,rfl,hB,hK,aK,hU,ap,aX,aq,hL,h0,k];have hs:=uI;exists 3,%[#[JZ,#[qm,yI,#[qO,5,pv 1,rfl],qT],%[#[qG,(2),yl.nd,#[QR,pv 1,T.qQ,T.l7,Wz]],#[qI,#[qm,8,QF,#[qF,qz,pv 2,qh],#[qB,#v[ql,ql]],#[w]],%[#[Qd,#[Qf,pv 1,T.qQ,T.iZ,Jz,#v[#[Qf,#[qO,5,pv 0,rfl],T.Q3,T.iG,yn,#v[pv 2]]]]]|sK],qr],#[qG,(3),yl.nd,#[Qf,pv 0,T.qy,T.ic,qP,#v[#[qF,qz,pv 2,qh]]]],#[qI,#[qm,yI,pv 3,qT],%[|#[qp,#[qF,qz,pv 2,qh]]],qr]|#[qI,#[qm,Qr,#[qF,qz,pv 3,qh],ql],%[|#[Qd,#[Qf,pv 1,T.qQ,T.iZ,Jz,#v[#[qF,qz,pv 3,qh]]]]],%[|#[qI,#[qm,Qr,#[qF,qz,pv 3,qh],ql],%[|#[Qd,#[Qf,pv 1,T.qQ,T.iZ,Jz,#v[qT]]]],%[|#[Qm,8,pv 1,#[qB,#v[ql,#[qF,qz,pv 2,qh]]],rfl]]]]]]]|#[qp,qT]]
 let J_:Nat->L2.St->Hp->Prop:=λmm σ H1=>∃(s1:Gs) (p1:Gp) (fk1:oj (Key×V)) (u3 u4:om V),σ= [u_ (.ref o.x),u_ (.ref Z.x),u3,u4]/\mm=Sy.mu #[Y,(n,p1)::r,don]/\Rnd a.qL a.qo H0 H H1 o #[Y,(n,p)::r,don] (plc Z st) Z s1 n p1 r fk1 top
 exists J_,⟨_,st,p,fk,U_,U_,1,1,h0⟩;rintro mm σ H1 ⟨s1,p1,fk1,u3,u4,rfl,rfl,O⟩;have aL:=sW hB hK O.kp O.tk hL;have aa:=hB.at aL;have au:∀b∈plc Z s1,H0 b=none:=λb hb=>(O.pl b hb).elim (hL b) (·.2);erw[O.gi (n,p1) (.inl uj),hI,aZ];have hI:GI p1:=hI;have aw:H1 o.du=u_ (.dK uk):=O.kp _ _ aK (λz=>by
  rcases A9.mp z with z|z
  ·have:=hB.nd;simp[LO] at this;exact this.2.1.2 z
  ·exact(hB.new (hL _ z)).2.2.1 rfl)
 erw[id O.go,dx,fs,mv,av,rv,ev,e,f,i,j,a1,l];have a2:↑fs<1000:=by have:=f.len;omega
 exists 0,Z.x,_,dx,fs,0,e,T.qQ,T.Q4,f.f_end,1,0;cases he:p1.en with
 |some d=>
  have l':Is H1 d ev:=by have:=l;rwa[O.rel.en,he] at this
  have aM:d≠ .non:=by rcases hI.en d he with⟨z,rfl⟩|⟨x,rfl,_⟩|⟨z,rfl⟩<;>(intro z;cases z)
  refine iL (ue (YL l' aM)) ?_;exact k _ H1 s1 p1 fk1 O (.inl ⟨1,by rw[he];rfl⟩)
 |none=>
  have l':Is H1 .non ev:=by have:=l;rwa[O.rel.en,he] at this
  cases(show ev= .non from l')
  refine ld (A6 rfl) ?_
  exists λσ' H'=>∃m',m'<Sy.mu #[Y,(n,p1)::r,don]/\J_ m' σ' H',λ_ _ h=>h;exists 8,B1,b1;have ax:Z.o≠Z.x:=by rw[aq];exact(hB.new (hL _ uj)).1.symm
  have ak:∀H2:Hp,(∀b ob,H1 b=u_ ob->b∉o.df::plc Z s1->H2 b=u_ ob)->∃dx fs,H2 Z.o=u_ (.ins a.qq dx fs)/\fs.lookup ("runner":Str)=none:=λH2 h2=>⟨_,_,(by rw[aq];exact h2 _ _ aa.e (λz=>by
   rcases A9.mp z with z|z
   ·have:=aa.e;rw[z,O.df] at this;cases this
   ·exact(hB.new (au _ z)).1 rfl)),zV o _ ()⟩
  cases hw:yJ p1 with
  |none=>
   exists 0,Z.x,dx,fs,1,e,f.meth _ ()
   refine Iq (E:=E0) (qs:=qs) O.go O.rel hI he hw λrs rr kd z v ay al ac hz aA hv=>b1 _ _ ?_;exists 8,B2,b2;erw[id hv,q,ws,rfl,hq,w1,r1,rfl,[rfl,aN],w2,r2,rfl,[rfl,aB],h3];cases(show r2= [] from h3)
   exists 0,q,_,_,0,1,SqT.of hq,1,(sml rfl),λt ht=>?_;have s2:=qf ht (.tup [V.str "has",V.str "names"])
   exists t,0,.inr (SqT.of qg),1,1,0;refine ld ((Adh kd).trans ac) ?_;erw[id aa.p,aO,dp,op,a3,hx,hd,hk,a4];have a5:↑z<=300:=by
    have:=yj hz;simp![iK,QB,uF,ve] at this;exact this.1
   erw[zO hB.q z ac,a6,aP];generalize a7:upd H1 t (.tup [V.str "has",V.str "names"])=H2 at s2⊢;have fin:∀(u:V) (H3:Hp),ia H2 H3->Is H3 (YX qs kd z) u->XC a.qL a.qo a.qq [.ref Z.x,u] H3 (λ_ H4=>∃m',m'<Sy.mu #[Y,(n,p1)::r,don]/\J_ m' [u_ (.ref o.x),u_ (.ref Z.x),u_ (.ref q),u4] H4) E0:=λu H3 s3 hu=>by
    have U:=s2.trans s3;refine CC (O.go.same U) O.rel hI he hu (λaQ r' e'=>?_) ax (ak H3 λb ob h _=>U b ob h) λH4 s4 w4 G4 R4 aR=>?_
    ·rw[ay] at e';cases e';exact⟨kd,_,al,aP⟩
    ·rw[<-aA] at R4;have kq:∀b ob,H3 b=u_ ob->b∉plc Z s1->H4 b=u_ ob:=λb ob h n=>w4.kept b ob h (λy=>n (by rw[y];exact uj)) (λmc r' y=>by
      unfold plc at n;rw[y] at n;simp![Sj,uG,uH,uS,V3] at n;exact[n.2.1:n.2.2.1:n.2.2.2])
     erw[O.more hB hK hL (Kp.of U) (U _ _ O.df) (O.fd.mono U.tk) (Gm _) kq w4.tk G4 R4 aR (O2 he hw),m1,m2];exact⟨_,m2,s4,_,fk1,_,0,1,m1⟩
   exists 0,Z.x,dx,fs,1,s2 _ _ e,f.meth _ ()
   exists 0,o.x,_,o.dx,_,0,s2 _ _ aa.e,T.qy,T.Qk,OY o
   exists o.px,aO,0,s2 _ _ hx,Wl,0,o.px,q,kd,z,qs,1,aa.p.same s2,hB.q,s2 _ _ hq,()
   have aC:kd="has"∨kd≠"has"/\kd="names":=by
    unfold mM at ac;by_cases c:kd="has"
    ·exact .inl c
    ·rw[ue c,TV] at ac;exact .inr [c:uw ac]
   rcases aC with c|⟨c',c⟩
   ·refine .inl [c:fin _ H2 (ia.refl _) ?_];unfold YX;rw[A3 c];exact Yb (by split<;>decide)
   ·refine .inr [c:λu H3 s3 hu=>fin u H3 s3 ?_];unfold YX;rwa[A2 c']
  |some m=>
   erw[WI hI he hw,a8,al]
   exists 0,Z.x,dx,fs,1,e,f.meth _ ()
   refine MY (E:=E0) O.go O.rel hI he hw λkd v H2 s2 ac hv=>b1 _ _ ?_;exists 8,B2,b2;erw[id hv,q,ws,rfl,hq,w1,r1,rfl,[rfl,aN],w2,r2,rfl,[rfl,aB],h3];cases(show r2= [] from h3)
   exists 0,q,_,_,0,1,SqT.of hq,1,(sml rfl),λt ht=>?_;have s3:=qf ht (.tup [V.str "has",V.str "names"])
   exists t,0,.inr (SqT.of qg),1,1,0;refine iL ((Adh kd).trans ac) (b2 _ _ ?_);exists 8,B3,b3;generalize upd H2 t (.tup [V.str "has",V.str "names"])=H3 at s3⊢;have U:=s2.trans s3;have aD:=s3 _ _ hq;have aE:SGI #[Y,(n,p1)::r,don]:=O.gi
   exists 0,o.x,o.dx,0,U _ _ aa.e,zV o _ ()
   exists 0,q,_,_,0,1,SqT.of aD,1,o,m,qs,#[Y,(n,p1)::r,don],uk,fk1,1,[U _ _ aa.e:aa.p.same U],hB.q,aE,U _ _ aw,hU,U _ _ O.df,O.fd.mono U.tk,(by have:=O.len;omega),ap,λu H4 am k4 f4 d4 l4 aS y4=>?_
   have ad:Kp [o.df] H1 H4:=(Kp.of U).trans k4;have aF:H4 q=u_ (.tup [V.str kd,V.str m]):=k4.tk.tup _ _ aD;have aT:o.df∉plc Z s1:=λz=>(hB.new (au _ z)).2.2.2.2 rfl;have G4:lY a.qL a.qo H4 Z s1:=O.go.frame (λb hb ob h=>ad.kept b ob h (λz=>aT (by rwa[<-Aa.mp z]))) ad.tk
   erw[id G4,ao,ae,a9,ba,bb,bc,e4,af,i4,j4,aG,bd];refine b3 _ _ ?_;exists 8,B4,b4
   exists 0,1,0;unfold sw at y4;cases hy:Sy.yet #[Y,(n,p1)::r,don] m with
   |none=>
    rw[hy] at y4;cases(show u= .non from y4)
    refine ld (A6 rfl) ⟨0,q,_,_,0,1,SqT.of aF,1,?_⟩;refine k _ H4 s1 p1 am ⟨O.st,(by rw[aS hy];exact O.len),λb ob h z=>ad.kept b ob (O.kp b ob h z) (λy=>z (by rw[Aa.mp y];exact uj)),O.tk.trans ad.tk,f4,d4,G4,O.rel,O.pl,O.gi⟩ (.inr ⟨m,1,he,hw,hy⟩)
   |some oa=>
    rw[hy] at y4;erw[y4,d,hd,ha,_];have sh:∃kk rr,d= .tup (.str kk::rr):=by
     cases oa with
     |none=>erw[ha,kk,rr,h,_];exact[kk:rr:h]
     |some x=>cases x with
      |none=>exact[_:_:ha]
      |some y=>exact[_:_:ha]
    erw[sh,kk,rr,rfl];erw[id hd,qa,wa,rfl,ag,w1,r1,rfl,[rfl,aY],h3];refine iL (ue (λz=>by cases z)) (b4 _ _ ?_)
    exists 0,qa,_,_,0,1,SqT.of ag,qE (j:=0) rfl,1,0;have fin:∀(dd:D) (u:V),Is H4 dd u->X6 dd->Sy.nxt #[Y,(n,p1)::r,don]=⟨(n,QX p1 dd)::r,don⟩->XC a.qL a.qo a.qq [.ref Z.x,u] H4 (λ_ H5=>∃m',m'<Sy.mu #[Y,(n,p1)::r,don]/\J_ m' [u_ (.ref o.x),u_ (.ref Z.x),u_ (.ref q),u_ (.ref qa)] H5) E0:=λdd u hu hok ah=>by
     refine CC G4 O.rel hI he hu (λaQ r' e'=>?_) ax (ak H4 λb ob h n=>ad.kept b ob h (λz=>n (by rw[Aa.mp z];exact uj))) λH5 s5 w5 G5 R5 aU=>?_
     ·rcases al with⟨h1,_⟩|⟨rs,rr,h1,h2⟩
      ·rw[h1] at e';cases e'
      ·rw[h1] at e';cases e';exact⟨"thing",_,h2,kr hok⟩
     ·have kq:∀b ob,H4 b=u_ ob->b∉plc Z s1->H5 b=u_ ob:=λb ob h n=>w5.kept b ob h (λy=>n (by rw[y];exact uj)) (λmc r' y=>by
       unfold plc at n;rw[y] at n;simp![Sj,uG,uH,uS,V3] at n;exact[n.2.1:n.2.2.1:n.2.2.2])
      erw[O.more hB hK hL ad f4 d4 l4 kq w5.tk G5 R5 aU ah,m1,m2];exact⟨_,m2,s5,_,am,_,0,1,m1⟩
    cases oa with
    |some x=>
     have hok:=L8 hB.q aE hy;have ah:=AaL he hw hy;cases x with
     |some y=>
      cases(show D.tup (.str kk::rr)= .tup [.str "value",y] from ha)
      erw[h3,w5,r5,rfl,h5,h6];cases(show r5= [] from h6)
      refine ld (A6 rfl) ?_;exact⟨0,Z.x,ao,ae,1,e4,af.meth _ (),0,qa,_,_,0,1,SqT.of ag,1,fin y w5 h5 hok ah⟩
     |none=>
      cases(show D.tup (.str kk::rr)= .tup [.str "lack"] from ha)
      refine iL () ?_
      exists 0,qa,_,_,0,1,SqT.of ag,qE (j:=0) rfl,1,0;refine ld (A6 rfl) ?_;exact⟨0,Z.x,ao,ae,1,e4,af.meth _ (),fin .non .non rfl hok ah⟩
    |none=>
     erw[ha,k2,r2,e5,c1,c2];cases e5;refine iL (ue (λz=>c1 (V.str.inj z))) ?_
     exists 0,qa,_,_,0,1,SqT.of ag,qE (j:=0) rfl,1,0;refine iL (ue (λz=>c2 (V.str.inj z))) ?_
     exists 0,q,_,_,0,1,SqT.of aF,1,(sml rfl),λt5 aH=>?_;have s5:=qf aH (.tup [V.str "stuck",V.str m]);have aI:↑ae<1000:=by have:=af.len;omega
     exists 0,Z.x,_,ao,ae,1,s5 _ _ e4,T.qQ,T.Q4,aI;have aV:=Is.new (H:=H4) (ds:= [.str "stuck",.str m]) (p:=t5) ⟨_,0,Yb (),_,0,[1:aB],1⟩ aH
     erw[kP (C:=a.qL) (CM:=a.qo) (g:=Z) (s:={s1 with en:= .tup [.str "stuck",.str m]}) (s5 _ _ e4) (af.set_end (u:= .ref t5)) (i4.mono s5.tk) (j4.mono s5.tk) (aG.same s5) aV,g1,g2]
     have aJ:mZ Z {s1 with en:= .tup [.str "stuck",.str m]} (Sh p1 m):=⟨O.rel.n,O.rel.mb,O.rel.ra,O.rel.run,O.rel.own,1⟩
     have aW:Kp [o.df] H1 (upd H4 t5 (.tup [V.str "stuck",V.str m])):=ad.trans (Kp.of s5);obtain⟨m1,m2⟩:=O.more hB hK hL aW (s5 _ _ f4) (d4.mono s5.tk) l4 (λb ob h n=>g2.kept b ob h (λy=>n (by rw[y];exact uj))) g2.tk g1 aJ (λb hb=> .inl hb) (O0 he hw hy)
     exact⟨_,m2,_,_,am,_,0,1,m1⟩
nonrec def Xe (CG CM:o3)(H:Hp)(ox:o3):oj (Gc×Gs)->oj (Str×Gp)->Prop
 | [],[]=>True
 |q::t,p::l=>lY CG CM H q.1 q.2/\mZ q.1 q.2 p.2/\q.1.o=ox/\Xe CG CM H ox t l
 |_,_=>False
nonrec def Ol:oj (Gc×Gs)->oj o3
 | []=> []
 |q::t=>plc q.1 q.2++Ol t
nonrec def Sep:oj (Gc×Gs)->Prop
 | []=>True
 |q::t=>(∀b∈plc q.1 q.2,b∉Ol t)/\Sep t
def Xe.frame {CG CM ox:o3}{H H':Hp}:∀{st:oj (Gc×Gs)}{l:oj (Str×Gp)},Xe CG CM H ox st l->(∀b∈Ol st,∀ob,H b=u_ ob->H' b=u_ ob)->Tk H H'->Xe CG CM H' ox st l
 | [],[],_,_,_=>trivial
 | [],_::_,h,_,_=>h.elim
 |_::_,[],h,_,_=>h.elim
 |q::t,p::l,⟨h1,h2,h3,h4⟩,hk,tk=>⟨h1.frame (λb O=>hk b (vq _ O)) tk,h2,h3,Xe.frame h4 (λb O=>hk b (uQ _ O)) tk⟩
def Xe.there {CG CM ox:o3}{H:Hp}:∀{st:oj (Gc×Gs)}{l:oj (Str×Gp)},Xe CG CM H ox st l->∀b∈Ol st,∃ob,H b=u_ ob
 | [],[],_=>λb O=>by cases O
 | [],_::_,h=>h.elim
 |_::_,[],h=>h.elim
 |q::t,p::l,⟨h1,h2,h3,h4⟩=>λb O=>by
  rcases Ab.mp O with O|O
  ·exact h1.there b O
  ·exact Xe.there h4 b O
def Xe.len {CG CM ox:o3}{H:Hp}:∀{st:oj (Gc×Gs)}{l:oj (Str×Gp)},Xe CG CM H ox st l->↑st=↑l
 | [],[],_=>rfl
 | [],_::_,h=>h.elim
 |_::_,[],h=>h.elim
 |q::t,p::l,⟨h1,h2,h3,h4⟩=>by rw[uu,uu,Xe.len h4]
def Bi {Y:Sy}:∀l:oj (Str×Y.G),↑l<=Sy.lfts l
 | []=>uq _
 |(_,g)::r=>by
  have:=Bi r;show ↑r+1<=Y.lft g+1+Sy.lfts r;omega
def Acv (O:Qi qs)(n:Str):Sy.mu (Sy.S0 (SyP qs) n)<=20000:=by
 have U:=O.2.2;have Z:∀S:Sy.Ss (SyP qs),↑(Sy.rest S)<=60:=λS=>by
  have h1:↑(Sy.rest S)<=(qs.map (·.1)).length:=HV _ _;rw[ud] at h1;omega
 unfold Sy.mu;have h2:=Z (Sy.S0 (SyP qs) n);have h3:(SyP qs).M=302:=rfl;rw[h3];have h4:Sy.lfts (Sy.S0 (SyP qs) n).stk<=303:=by
  unfold Sy.S0;cases hg:(SyP qs).g0 n with
  |none=>exact uP _
  |some g=>
   have:=(Qs qs).l0 n g hg;show(SyP qs).lft g+1+0<=303;have h3:(SyP qs).M=302:=rfl;omega
 omega
structure OI {qs:oj (Str×D)}(CG CM:o3)(H0 H:Hp)(o:Oc)(n0:Str)(S:Sy.Ss (SyP qs))(st:oj (Gc×Gs))(uk rk fk:oj (Key×V)):Prop where
 kp:Kp (LO o) H0 H
 nx:∃j,S=Sy.nx (Sy.S0 (SyP qs) n0) j
 ls:H o.ls=u_ (.lst (st.reverse.map λq=>V.ref q.1.x))
 du:H o.du=u_ (.dK uk)
 uo:PK S uk
 ul:↑uk+Sy.mu S<=20001
 dr:H o.dr=u_ (.dK rk)
 rks:rk.map (·.1)=S.don.map λp=>Va p.1
 rv:L2.IsL H (S.don.map λp=>JM p.2) (rk.map (·.2))
 rl:↑S.don+Sy.mu S<=20001
 df:H o.df=u_ (.dK fk)
 fd:Cq H S fk
 fl:↑fk+Sy.mu S<=20001
 stk:Xe CG CM H o.x st S.stk
 new:∀b∈Ol st,H0 b=U_
 sep:Sep st
 gi:SGI S
 fin:∀q∈S.don,(Gp.en q.2).isSome=v_
 nd:(S.stk.map (·.1)++S.don.map (·.1)).Nodup
def PN (n:Str)(j:Nat):((Sy.nx (Sy.S0 (SyP qs) n) j).stk.map (·.1)++(Sy.nx (Sy.S0 (SyP qs) n) j).don.map (·.1)).Nodup:=by
 cases O:(SyP qs).g0 n with
 |some g=>exact(Sy.nx_ok (Qs qs) (Sy.S0_ok O) j).nd
 |none=>
  have e:Sy.nx (Sy.S0 (SyP qs) n) j=⟨[],[]⟩:=by
   have U:Sy.S0 (SyP qs) n=⟨[],[]⟩:=by unfold Sy.S0;rw[O]
   rw[U]
   induction j with
   |zero=>rfl
   |succ j Z=>show Sy.nxt _=_;rw[Z];rfl
  rw[e];exact U0
inductive Nm (CO CP:Addr):Sp
 |mk (o:Oc)(qs:List (Str×D))(n:Str)(_:vs= [.ref o.x,.str n])(_:Bs CO CP H o qs)(_:H o.ls=u_ (.lst []))(_:H o.du=u_ (.dK []))(_:H o.dr=u_ (.dK []))(_:H o.df=u_ (.dK []))(_:∀(H':Hp)(rk uk fk:List (Key×V))(don:List (Str×Gp))(j:Nat),H' o.du=u_ (.dK uk)->PK #[Y,[],don] uk->H' o.df=u_ (.dK fk)->Cq H' #[Y,[],don] fk->↑fk<=20001->SGI #[Y,[],don]->Kp (LO o) H H'->Sy.nx (Sy.S0 (SyP qs) n) j=⟨[],don⟩->H' o.dr=u_ (.dK rk)->(rk.map (·.1)=don.map λp=>Va p.1)->L2.IsL H' (don.map λp=>JM p.2) (rk.map (·.2))->(∀p∈don,GI p.2/\p.2.en.isSome=v_)->↑don<=20001->Q .non H')
def XU {α:Type}{xs:oj α}{x:α}:atI (xs++ [x]) (-1)=u_ x:=by
 unfold atI ixN;have O:↑(xs++ [x])=↑xs+1:=by simp
 rw[A2 (),A3 ()]
 show(xs++ [x])[(-1+(↑(xs++ [x]):Int)).toNat]? =u_ x;rw[show(-1+(↑(xs++ [x]):Int)).toNat=↑xs by omega]
 simp
def Mu {Y:Sy}(S:Sy.Ss Y)(i:Nat):∀j,Sy.nx S (i+j)=Sy.nx (Sy.nx S i) j
 |0=>rfl
 |j+1=>by show Sy.nxt (Sy.nx S (i+j))=Sy.nxt (Sy.nx (Sy.nx S i) j);rw[Mu S i j]
def AaO {qs:oj (Str×D)}(S:Sy.Ss (SyP qs)):∀j,Sy.mu (Sy.nx S j)<=Sy.mu S
 |0=>uq _
 |j+1=>by
  have h:=AaO S j;show Sy.mu (Sy.nxt (Sy.nx S j))<=_;by_cases c:(Sy.nx S j).stk= []
  ·have e:Sy.nxt (Sy.nx S j)=Sy.nx S j:=by unfold Sy.nxt;rw[c]
   rwa[e]
  ·have:=Sy.nxt_mu (Qs qs) c;omega
def Ot:#[C,13,a.yy,a.yF,["self","name"],(Nm a.qq a.qJ)]:=by
 have qP:=#[AX,T];have Y2:=#[Lm,T,C];have X8:=#[AaI,T,C];have xy:=#[DE,T];exists 9,T.iJ,QN
 erw[h,o,qs,n,rfl,hB,bD,bg,bE,bF,k];have hs:=uI;have hO:=hB.oa;exists 3,%[#[qI,#[qm,yI,#[Qf,pv 0,T.qy,T.ic,qP,#v[pv 1]],qT],%[|#[Qd,#[Qf,pv 0,T.qy,T.iI,Y2,#v[pv 1]]]],qr]|#[JZ,#[AO,3,#[qO,5,pv 0,rfl],(λ_=>rfl)],%[#[qG,(2),QN.nd,#[qF,Yj,#[qO,5,pv 0,rfl],#[KZ,6,Ax,qh]]],#[qG,(3),QN.nd,#[Qf,pv 0,T.qy,T.ky,X8,#v[pv 2]]]|#[qI,#[qm,yI,pv 3,qT],%[#[Qd,#[Mo,9,uW,PySem.F.slot_list_pop,PySem.F.type_list_pop,Mx,#[qO,5,pv 0,rfl],_,_]],#[Qd,#[K0,7,#[qO,5,pv 0,rfl],#[qO,5,pv 2,rfl],⟨1,1,1,1⟩]]|#[Qd,#[Qf,pv 0,T.qy,T.iT,xy,#v[pv 2]]]],%[|#[Qd,#[Qf,pv 0,T.qy,T.iI,Y2,#v[pv 3]]]]]]]]
 have bG:=Acv hB.q n;exists 8,N,hN;have bH:∀(H1:Hp) (S:Sy.Ss (SyP qs)) (st:oj (Gc×Gs)) (uk rk fk:oj (Key×V)),OI a.qL a.qo H H1 o n S st uk rk fk->N [u_ (.ref o.x),u_ (.str n),U_,U_] H1:=by
  intro H1 S st uk rk fk h1;refine hN _ _ ?_
  let J_:Nat->L2.St->Hp->Prop:=λmm σ H2=>∃(S:Sy.Ss (SyP qs)) (st:oj (Gc×Gs)) (uk rk fk:oj (Key×V)) (u3 u4:om V),σ= [u_ (.ref o.x),u_ (.str n),u3,u4]/\mm=Sy.mu S/\OI a.qL a.qo H H2 o n S st uk rk fk
  exists J_,⟨_,S,st,uk,rk,fk,U_,U_,1,1,h1⟩;clear h1 bg bE bF bD;rintro mm σ H2 ⟨S,st,uk,rk,fk,u3,u4,rfl,rfl,Z⟩;have bh:=hB.at Z.kp
  exists 0,o.x,_,o.dx,_,0,bh.e,T.qy,T.QE,Lr o,_,.inl [_:SqL.of Z.ls:1];obtain⟨(stk:oj (Str×Gp)),(don:oj (Str×Gp))⟩:=S;have ax:Xe a.qL a.qo H2 o.x st stk:=Z.stk;cases st with
  |nil=>
   cases stk with
   |cons p l=>exact ax.elim
   |nil=>
    refine iL rfl ?_;erw[Z.nx,j,hj];exact k H2 rk uk fk don j Z.du Z.uo Z.df Z.fd (by have:=Z.fl;omega) Z.gi Z.kp hj.symm Z.dr Z.rks Z.rv (λp hp=>[(Z.gi p (.inr hp)).1:Z.fin p hp]) (by have:=Z.rl;have e:↑(#[Y,[],don].don)=↑don:=rfl;omega)
  |cons q t=>
   erw[q,gc,gs];cases stk with
   |nil=>exact ax.elim
   |cons p l=>
    erw[p,O,p];erw[ax,hG,bo,bI,hT];have hG:lY a.qL a.qo H2 gc gs:=hG;have bo:mZ gc gs p:=bo;have am:H2 o.ls=u_ (.lst ((t.reverse.map λq=>V.ref q.1.x)++ [V.ref gc.x])):=by
     have:=Z.ls;rwa[UX,uD] at this
    refine ld (by rw[UX,uD];show(!((H_ _ t.reverse)++ [V.ref gc.x]).isEmpty)=v_;simp) ?_
    exists λσ' H'=>∃m',m'<Sy.mu #[Y,(O,p)::l,don]/\J_ m' σ' H',λ_ _ h=>h;exists 8,B1,b1
    exists 0,o.x,_,o.dx,_,0,bh.e,T.qy,T.QE,Lr o,0,o.ls,_,_,0,1,SqL.of am,XU,b1 _ _ ?_;exists 8,B2,b2;have ao:∀b∈plc gc gs,H b=none:=λb U=>Z.new b (vq _ U);have ac:∀b∈Ol t,H b=none:=λb U=>Z.new b (uQ _ U);have bJ:∃j,#[Y,(O,p)::l,don]=Sy.nx #[Y,(O,p)::l,don] j:=[(0):1]
    exists 0,o.x,o.dx,0,bh.e,zV o _ (),0,H,o,qs,gc,gs,O,p,l,don,uk,fk,(20001),1,hB,Z.kp,Z.du,Z.uo,Z.fin,(),bI,ao,⟨bJ,Z.fl,λ_ _ h _=>h,Tk.refl _,Z.df,Z.fd,hG,bo,λb U=> .inl U,Z.gi⟩,λv H3 ak p3 ad hR hv=>?_
    have aW:Sy.mu #[Y,(O,p3)::l,don]<=Sy.mu #[Y,(O,p)::l,don]:=by
     erw[hR.st,j,hj];have hj:#[Y,(O,p3)::l,don]=Sy.nx #[Y,(O,p)::l,don] j:=hj;rw[hj];exact AaO _ _
    have bK:∃j,#[Y,(O,p3)::l,don]=Sy.nx (Sy.S0 (SyP qs) n) j:=by
     erw[hR.st,j,hj];erw[Z.nx,i,hi];have hj:#[Y,(O,p3)::l,don]=Sy.nx #[Y,(O,p)::l,don] j:=hj;exact⟨i+j,by rwa[Mu,<-hi]⟩
    have ap:Kp (LO o) H H3:=sW hB Z.kp hR.kp hR.tk ao;have ay:=hB.at ap;have aq:∀b∈plc gc ak,H b=none:=λb U=>(hR.pl b U).elim (ao b) (·.2);have out:∀b,b∈LO o->b≠o.df->b∉o.df::plc gc gs:=λb U hn z=>by
     rcases A9.mp z with z|z
     ·exact hn z
     ·exact hB.nlo (ao b z) U
    have bZ:o.ls≠o.du/\o.ls≠o.dr/\o.ls≠o.df/\o.du≠o.dr/\o.du≠o.df/\o.dr≠o.df:=by
     have h:=hB.nd;simp![LO,U5,uG,uH,uS,V3,U0,and_true,UW] at h;exact⟨h.1.1,h.1.2.1,h.1.2.2,h.2.1.1,h.2.1.2,h.2.2⟩
    erw[bZ,d1,d2,d3,d4,d5,d6];have af:=hR.kp _ _ am (out _ (by simp[LO]) d3)
    have aA:=hR.kp _ _ Z.du (out _ (by simp[LO]) d5)
    have aB:=hR.kp _ _ Z.dr (out _ (by simp[LO]) d6)
    have bp:Xe a.qL a.qo H3 o.x t l:=hT.frame (λb U ob h=>hR.kp b ob h (λz=>by
     rcases A9.mp z with z|z
     ·exact(hB.new (ac b U)).2.2.2.2 z
     ·exact Z.sep.1 b z U)) hR.tk
    have bq:∀b∈plc gc ak,b∉Ol t:=λb U z=>by
     rcases hR.pl b U with U|⟨U,_⟩
     ·exact Z.sep.1 b U z
     ·erw[hT.there b z,ob,e];rw[e] at U;cases U
    have b3:GI p3:=(hR.gi (O,p3) (.inl uj)).1;have aX:p3.n=O:=(hR.gi (O,p3) (.inl uj)).2;have bL:=Z.ul;have bM:=hR.len;have b4:=Z.rl;have cm:↑don+Sy.mu #[Y,(O,p)::l,don]<=20001:=b4;have b5:↑ad+Sy.mu #[Y,(O,p3)::l,don]<=20001:=bM;have aC:=Sy.nxt_mu (Qs qs) (S:=#[Y,(O,p3)::l,don]) (by intro z;cases z)
    have cn:↑rk=↑don:=by
     have:=A8 g_ Z.rks;rwa[ud,ud] at this
    have aD:H3 o.df=u_ (.dK ad):=hR.df;have aO:lY a.qL a.qo H3 gc ak:=hR.go;have ag:mZ gc ak p3:=hR.rel;have aY:Cq H3 #[Y,(O,p3)::l,don] ad:=hR.fd;have aZ:SGI #[Y,(O,p3)::l,don]:=hR.gi;erw[bK,i3,aP];refine b2 _ _ ?_
    exists 0,1,0;rcases hv with⟨rfl,au⟩|⟨m,rfl,au,hw,hy⟩
    ·
     refine ld (A6 rfl) ?_;exists 8,C1,c1;obtain⟨d,hd⟩:∃d,p3.en=u_ d:=by
      cases h:p3.en with
      |none=>rw[h] at au;cases au
      |some d=>exact[d:1]
     have ae:=O1 (qs:=qs) (n:=O) (r:=l) (don:=don) hd
     exists 0,o.x,_,o.dx,_,0,ay.e,T.qy,T.QE,Lr o,.inl [1:_:SqL.of af]
     exists o.ls,_,V.ref gc.x,1,1,af,by simp
     rw[List.dropLast_concat];have aa:Kp [o.ls,o.du] H3 (upd H3 o.ls (.lst (t.reverse.map λq=>V.ref q.1.x))):=⟨λb ob h n=>by rw[qj (λz=>n (by rw[z];exact uj))];exact h,jA.tk (p:=o.ls) (λb ob h n=>by rwa[qj n]) af qg⟩
     obtain⟨H4,aE⟩:∃H4,H4=upd H3 o.ls (.lst (t.reverse.map λq=>V.ref q.1.x)):=⟨0⟩;rw[<-aE] at aa⊢;refine c1 _ _ ?_;exists 8,C2,c2;have e4:H4 o.x=u_ (.ins a.qq o.dx (ofs o)):=by rw[aE,qj (λz=>by have:=ay.e;rw[z,af] at this;cases this)];exact ay.e
     have aF:H4 o.ls=u_ (.lst (t.reverse.map λq=>V.ref q.1.x)):=by rw[aE];exact qg
     have al:H4 o.du=u_ (.dK uk):=by rwa[aE,qj d1.symm]
     have bN:∀b,H b=U_->b≠o.ls:=λb U=>(hB.new U).2.1;have b6:lY a.qL a.qo H4 gc ak:=aO.frame (λb U ob h=>by rwa[aE,qj (bN b (aq b U))]) aa.tk
     erw[id b6,b7,b8,cp,cq,cr,cs,b9,f4,_];have aG:(iW uk (Va gc.n)).isSome=true:=by
      rw[ag.n,aX];exact(Z.uo O).trans (A6 uj)
     obtain⟨uv,ca⟩:∃uv,iW uk (Va gc.n)=u_ uv:=by
      cases h:iW uk (Va gc.n) with
      |none=>rw[h] at aG;cases aG
      |some uv=>exact[uv:1]
     exists 0,o.x,_,o.dx,_,0,e4,T.qy,T.QA,OW o,o.du,1,.inl [_:.inl al],0,gc.x,_,b7,b8,0,b9,T.qQ,T.y9,f4.Zk,uk,Va gc.n,uv,al,1,ca;have ah:Kp [o.ls,o.du] H3 (upd H4 o.du (.dK (Js uk (Va gc.n)))):=aa.trans (Kp.updD al (ui _ uj));obtain⟨H5,bt⟩:∃H5,H5=upd H4 o.du (.dK (Js uk (Va gc.n))):=⟨0⟩;rw[<-bt] at ah⊢;refine c2 _ _ ?_;have bO:H5 o.du=u_ (.dK (Js uk (Va gc.n))):=by rw[bt];exact qg
     have bP:H5 o.ls=u_ (.lst (t.reverse.map λq=>V.ref q.1.x)):=by rwa[bt,qj d1]
     have aH:∀b,H b=U_->b∉ [o.ls,o.du]:=λb U z=>by
      simp![uG,uH,uS] at z;rcases z with z|z
      ·exact(hB.new U).2.1 z
      ·exact(hB.new U).2.2.1 z
     have cb:lY a.qL a.qo H5 gc ak:=aO.frame (λb U ob h=>ah.kept b ob h (aH b (aq b U))) ah.tk;have bQ:H5 o.dr=u_ (.dK rk):=ah.kept _ _ aB (by simp![uG,uH,uS,V3];exact[d2.symm:d4.symm])
     have bR:H5 o.df=u_ (.dK ad):=ah.kept _ _ aD (by simp![uG,uH,uS,V3];exact[d3.symm:d5.symm])
     have aQ:∀b,b∉LO o->b∉ [o.ls,o.du]:=λb U z=>U (by simp![LO,uG,uH,uS] at z⊢;rcases z with z|z;exact .inl z;exact .inr (.inl z))
     have bu:Kp (LO o) H H5:=[λb ob h n=>ah.kept b ob (ap.kept b ob h n) (aQ b n):ap.tk.trans ah.tk];have bS:=hB.at bu
     exists 0,o.x,o.dx,0,bS.e,zV o _ (),0,o,qs,gc,ak,p3,rk,ad,1,bS,cb,ag,b3,au,bQ,(),bR,(),d6,λz=>(hB.new (aq _ z)).2.2.2.1 rfl,λz=>(hB.new (aq _ z)).2.2.2.2 rfl,λv1 v2 H6 aw aI i6 ba j6=>?_
     have bT:∀b,b∉LO o->b∉ [o.dr,o.df]:=λb U z=>U (by simp![LO,uG,uH,uS] at z⊢;rcases z with z|z;exact .inr (.inr (.inl z));exact .inr (.inr (.inr z)))
     have cc:∀b,H b=U_->b∉ [o.dr,o.df]:=λb U=>bT b (hB.nlo U);have cd:Kp (LO o) H H6:=[λb ob h n=>aw.kept b ob (bu.kept b ob h n) (bT b n):bu.tk.trans aw.tk];have aJ:Tk H3 H6:=ah.tk.trans aw.tk;have bv:gc.n=O:=ag.n.trans aX;have aR:(#[Y,(O,p3)::l,don].stk.map (·.1)++#[Y,(O,p3)::l,don].don.map (·.1)).Nodup:=by
      rw[aP];exact PN n i3
     have bb:(O::(l.map (·.1)++don.map (·.1))).Nodup:=aR;have aK:O∉don.map (·.1):=λz=>(List.nodup_cons.mp bb).1 (uQ _ z);have bw:O∉l.map (·.1):=λz=>(List.nodup_cons.mp bb).1 (vq _ z);have ce:iW rk (Va O)=none:=by
      cases h:iW rk (Va O) with
      |none=>rfl
      |some v=>
       have h1:=Na h;rw[Z.rks] at h1;erw[Ac.mp h1,q,hq,e];injection e with e
       exact A7 (Ac.mpr [q:hq:e]) aK
     rw[bv] at aI ba;rw[AN v1 ce] at aI;have bU:↑uk+Sy.mu #[Y,(O,p)::l,don]<=20001:=bL;have cu:=BC uk (Va gc.n:Key);have cf:=yU ad (Va O:Key) v2;have a1:PK #[Y,l,don++ [(O,p3)]] (Js uk (Va gc.n)):=by
      intro m';rw[wb];by_cases c:m'=O
      ·rw[A3 (by rw[c,bv]),c]
       exact(ue bw).symm
      ·rw[A2 (by rw[bv];exact λz=>c (Um z))]
       refine(Z.uo m').trans ?_;rw[vc];exact⟨λz=>by rcases A9.mp z with z|z;exact A7 z c;exact z,λz=>ui _ z⟩
     have a2:(rk++ [((Va O:Key),v1)]).map (·.1)=(don++ [(O,p3)]).map λq:Str×Gp=>(Va q.1:Key):=by
      rw[uD,uD];have:=Z.rks;rw[this]
      rfl
     have a3:L2.IsL H6 ((don++ [(O,p3)]).map λq:Str×Gp=>JM q.2) ((rk++ [((Va O:Key),v1)]).map (·.2)):=by
      rw[uD,uD];exact((Z.rv.mono (hR.tk.trans aJ))).append (L2.IsL.one i6)
     have a4:↑(don++ [(O,p3)])=↑don+1:=by rw[uB];rfl
     have a5:∀(m':Str) (g':Gp),g0D m' (qH qs m')=u_ g'->(∀g2:Gp,Sy.Yd (Y:=SyP qs) (don++ [(O,p3)]) m'=u_ g2->∃v,iW (l8 ad (Va O) v2) (Va m')=u_ v/\Is H6 (qU (g2.en.getD .non)) v)/\(Sy.Yd (Y:=SyP qs) (don++ [(O,p3)]) m'=U_->iW (l8 ad (Va O) v2) (Va m')=U_):=by
      intro m' g' cg;rw[XQ];by_cases c:m'=O
      ·have aL:Sy.Yd (Y:=SyP qs) (don++ [(O,p3)]) m'=(u_ p3:om Gp):=by
        have e1:(don.find? λq=>decide (q.1=m'))=none:=List.find?_eq_none.mpr λq hq e=>aK (by rw[<-c,<-uw e];exact Tw hq)
        have e2:((don++ [(O,p3)]).find? λq:Str×Gp=>decide (q.1=m'))=u_ (O,p3):=by rw[FI,e1,c];simp
        show((don++ [(O,p3)]).find? λq:Str×Gp=>decide (q.1=m')).map (·.2)=u_ p3;rw[e2]
        rfl
       exists λg2 e2=>?_,λz=>?_
       ·have e3:=aL.symm.trans e2;cases e3;rw[A3 (by rw[c])]
        exact[v2:1:j6]
       ·have e3:=aL.symm.trans z;cases e3
      ·have aL:Sy.Yd (Y:=SyP qs) (don++ [(O,p3)]) m'=Sy.Yd (Y:=SyP qs) don m':=by
        have e2:((don++ [(O,p3)]).find? λq:Str×Gp=>decide (q.1=m'))=don.find? λq:Str×Gp=>decide (q.1=m'):=by
         rw[FI];have:([(O,p3)].find? λq:Str×Gp=>decide (q.1=m'))=none:=by simp;exact λz=>c z.symm
         rw[this,Option.or_none]
        show((don++ [(O,p3)]).find? λq:Str×Gp=>decide (q.1=m')).map (·.2)=(don.find? λq:Str×Gp=>decide (q.1=m')).map (·.2);rw[e2]
       rw[A2 (λz=>c (Um z))];have aM:(∀g2:Gp,Sy.Yd (Y:=SyP qs) don m'=u_ g2->∃v,iW ad (Va m')=u_ v/\Is H6 (qU (g2.en.getD .non)) v)/\(Sy.Yd (Y:=SyP qs) don m'=U_->iW ad (Va m')=U_):=(aY.mono aJ) m' g' cg;exact[λg2 e2=>aM.1 g2 (aL.symm.trans e2):λz=>aM.2 (aL.symm.trans z)]
     have a6:Xe a.qL a.qo H6 o.x t l:=bp.frame (λb U ob h=>aw.kept b ob (ah.kept b ob h (aH b (ac b U))) (cc b (ac b U))) aJ;have a7:∀q∈don++ [(O,p3)],q.2.en.isSome=true:=by
      intro q hq;rcases Ab.mp hq with hq|hq
      ·exact Z.fin q hq
      ·cases Aa.mp hq;exact au
     have eN:Sy.nx (Sy.S0 (SyP qs) n) (i3+1)=Sy.nxt #[Y,(O,p3)::l,don]:=by show Sy.nxt (Sy.nx _ i3)=_;rw[<-aP]
     have a8:=PN (qs:=qs) n (i3+1);rw[eN] at a8;have a9:=DT hB.q aZ;have bx:OI a.qL a.qo H H6 o n (Sy.nxt #[Y,(O,p3)::l,don]) t (Js uk (Va gc.n)) (rk++ [(Va O,v1)]) (l8 ad (Va O) v2):=by
      exists cd,[i3+1:eN.symm],aw.kept _ _ bP (by simp![uG,uH,uS,V3];exact[d2:d3]),aw.kept _ _ bO (by simp![uG,uH,uS,V3];exact[d4:d5]),?_,(),aI,?_,?_,?_,ba,?_,(),?_,ac,Z.sep.2,a9,?_,a8
      ·rwa[ae]
      ·rwa[ae]
      ·rwa[ae]
      ·have e:(Sy.nxt #[Y,(O,p3)::l,don]).don.length=↑don+1:=by rwa[ae]
       omega
      ·rwa[ae]
      ·rwa[ae]
      ·rwa[ae]
     exact⟨_,Vn aC aW,_,t,_,_,_,_,0,1,bx⟩
    ·
     refine iL (ue (λz=>by cases z)) ?_
     erw[Lv (qs:=qs) au hw hy,p',ch,ae];rw[ae] at aC;erw[Sy.jH hy,y1,_,y3];have bV:=Bi (Y:=SyP qs) ((O,p3)::l);have aS:↑((O,p3)::l)<=Sy.mu #[Y,(O,p3)::l,don]:=uT bV (V1 _ _);have cv:↑t=↑l:=hT.len;have bU:↑uk+Sy.mu #[Y,(O,p)::l,don]<=20001:=bL
     exists 0,o.x,o.dx,0,ay.e,zV o _ (),0,o,m,qs,_,uk,p',1,ay,hB.q,af,?_,aA,(),ch,λgn sn H4 aa aF al bA bB bC aT=>?_
     ·rw[uB,ud,List.length_reverse,v9];rw[uu] at aS;omega
     have aQ:∀b,b∉LO o->b∉ [o.ls,o.du]:=λb U z=>U (by simp![LO,uG,uH,uS] at z⊢;rcases z with z|z;exact .inl z;exact .inr (.inl z))
     have ci:Kp (LO o) H H4:=[λb ob h n=>aa.kept b ob (ap.kept b ob h n) (aQ b n):ap.tk.trans aa.tk];have aH:∀b,H b=U_->b∉ [o.ls,o.du]:=λb U=>aQ b (hB.nlo U);have aN:∀b∈plc gn sn,H b=none:=λb U=>by
      have h3:=aT b U;cases h:H b with
      |none=>rfl
      |some ob=>
       by_cases c:b∈LO o
       ·simp![LO,uG,uH,uS] at c;rcases c with rfl|rfl|rfl|rfl
        ·rw[af] at h3;cases h3
        ·rw[aA] at h3;cases h3
        ·rw[aB] at h3;cases h3
        ·rw[aD] at h3;cases h3
       ·rw[ap.kept b ob h c] at h3;cases h3
     exists _,Vn aC aW,[(m,p')::(O,p3)::l:don],(gn,sn)::(gc,ak)::t,l8 uk (Va m) (.bl v_),rk,ad,_,0,1;have cf:=yU uk (Va m:Key) (.bl v_)
     exists 5
     refine⟨ci,⟨i3+1,by show _=Sy.nxt (Sy.nx _ i3);rw[<-aP,ae]⟩,?_,al,?_,(),aa.kept _ _ aB (by simp![uG,uH,uS,V3];exact[d2.symm:d4.symm]),Z.rks,Z.rv.mono (hR.tk.trans aa.tk),?_,aa.kept _ _ aD (by simp![uG,uH,uS,V3];exact[d3.symm:d5.symm]),?_,(),?_,?_,?_,?_,Z.fin,?_⟩
     ·rw[aF,UX,UX,uD,uD]
      rfl
     ·intro m';rw[XQ];by_cases c:m'=m
      ·rw[A3 (by rw[c])]
       exact(A6 (by rw[c];exact uj)).symm
      ·rw[A2 (λz=>c (Um z))];refine(Z.uo m').trans ?_;rw[vc];exact⟨λz=>ui _ z,λz=>by rcases A9.mp z with z|z;exact A7 z c;exact z⟩
     ·show ↑don+_<=_;omega
     ·exact aY.mono aa.tk
     ·exact⟨bA,bB,bC,aO.frame (λb U ob h=>aa.kept b ob h (aH b (aq b U))) aa.tk,ag,bI,bp.frame (λb U ob h=>aa.kept b ob h (aH b (ac b U))) aa.tk⟩
     ·intro b U;rcases Ab.mp U with U|U
      ·exact aN b U
      ·rcases Ab.mp U with U|U
       ·exact aq b U
       ·exact ac b U
     ·exists λb U z=>?_,bq,Z.sep.2;have h3:=aT b U;rcases Ab.mp z with z|z
      ·erw[aO.there b z,ob,e];rw[e] at h3;cases h3
      ·erw[bp.there b z,ob,e];rw[e] at h3;cases h3
     ·have:=DT hB.q aZ;rwa[ae] at this
     ·have:=PN (qs:=qs) n (i3+1);have e:Sy.nx (Sy.S0 (SyP qs) n) (i3+1)=⟨(m,p')::(O,p3)::l,don⟩:=by show Sy.nxt (Sy.nx _ i3)=_;rw[<-aP,ae]
      rwa[e] at this
 have u0:PK #[Y,[],[]] []:=λm=>by rw[kY];rfl
 have f0:Cq H #[Y,[],[]] []:=λm g hg=>⟨(λg' e=>by cases e),λ_=>kY⟩
 have g0:SGI #[Y,[],[]]:=λp hp=>by rcases hp with hp|hp<;>cases hp
 exists 0,o.x,o.dx,0,hO.e,zV o _ (),0,o,n,qs,#[Y,[],[]],[],[],1,hO,hB.q,g0,bg,u0,bF,f0,(),(λ_ z=>by cases z),λv H1 fk1 k1 f1 d1 l1 bW y1=>?_
 have aR:=hB.nd;simp![LO,U5,uG,uH,uS,V3,U0,and_true,UW] at aR;erw[aR,[n1,n2,n3],[n4,n5],n6];have aU:∀b,b≠o.df->b∉ [o.df]:=λb U z=>U (Aa.mp z);have aV:Kp (LO o) H H1:=⟨λb ob h z=>k1.kept b ob h (λy=>z (by rw[Aa.mp y];simp[LO])),k1.tk⟩
 have bX:=hB.at aV;have bc:=k1.kept _ _ bD (aU _ n3);have bd:=k1.kept _ _ bg (aU _ n5);have be:=k1.kept _ _ bE (aU _ n6)
 exists 1,0;unfold sw at y1;cases hg:(SyP qs).g0 n with
 |none=>
  have ey:Sy.yet #[Y,[],[]] n=u_ (u_ ((SyP qs).once n)):=by
   unfold Sy.yet;rw[A2 (by intro z;cases z),hg]
  rw[ey] at y1;erw[y1,d,i1,i2,_];have cj:d≠ .non:=by
   cases h:(SyP qs).once n with
   |none=>rw[h] at i2;intro z;rw[z] at i2;cases i2
   |some x=>rw[h] at i2;intro z;rw[z] at i2;cases i2
  refine iL (ue (YL i1 cj)) ?_;have e0:Sy.S0 (SyP qs) n=⟨[],[]⟩:=by unfold Sy.S0;rw[hg]
  rw[e0] at bG;have l1:↑fk1<=0+1:=l1;exact bH H1 [[]:[]] [] [] [] fk1 ⟨aV,[(0):e0.symm],bc,bd,u0,(by show 0+_<=_;omega),be,1,1,(by show 0+_<=_;omega),f1,d1,(),trivial,(λb U=>by cases U),trivial,g0,(λq hq=>by cases hq),U0⟩
 |some p=>
  have ey:Sy.yet #[Y,[],[]] n=none:=by
   unfold Sy.yet;rw[A2 (by intro z;cases z),hg]
   rfl
  rw[ey] at y1;cases(show v= .non from y1)
  refine ld (A6 rfl) ?_;have e0:Sy.S0 (SyP qs) n=⟨[(n,p)],[]⟩:=by unfold Sy.S0;rw[hg]
  rw[e0] at bG;have bW:↑fk1=0:=bW ey
  exists 0,o.x,o.dx,0,bX.e,zV o _ (),0,o,n,qs,[],[],p,1,bX,hB.q,bc,(),bd,(),hg,λgn sn H2 k2 am bY bA bB bC aT=>?_
  have ck:Kp (LO o) H H2:=⟨λb ob h z=>k2.kept b ob (aV.kept b ob h z) (λy=>z (by simp![LO,uG,uH,uS] at y⊢;rcases y with y|y;exact .inl y;exact .inr (.inl y))),aV.tk.trans k2.tk⟩
  have aN:∀b∈plc gn sn,H b=none:=λb U=>by
   have h3:=aT b U;cases h:H b with
   |none=>rfl
   |some ob=>
    by_cases c:b=o.df
    ·rw[c,f1] at h3;cases h3
    ·rw[k1.kept b ob h (aU b c)] at h3;cases h3
  have bf:∀b,b≠o.ls->b≠o.du->b∉ [o.ls,o.du]:=λb h1 h2 z=>by
   simp![uG,uH,uS] at z;rcases z with z|z
   ·exact h1 z
   ·exact h2 z
  refine bH H2 [[(n,p)]:[]] [(gn,sn)] (l8 [] (Va n) (.bl v_)) [] fk1 ⟨ck,[(0):e0.symm],am,bY,?_,?_,k2.kept _ _ be (bf _ (Ux n2) (Ux n4)),1,1,(by show 0+_<=_;omega),k2.kept _ _ f1 (bf _ (Ux n3) (Ux n5)),d1.mono k2.tk,(),⟨bA,bB,bC,trivial⟩,?_,⟨λb U z=>(by cases z),trivial⟩,?_,(λq hq=>by cases hq),?_⟩
  ·intro m';rw[XQ];by_cases c:m'=n
   ·rw[A3 (by rw[c])]
    exact(A6 (by rw[c];exact uj)).symm
   ·rw[A2 (λz=>c (Um z)),kY];exact(ue (λz=>c (Aa.mp z))).symm
  ·have:=yU [] (Va n:Key) (.bl v_);rw[Hq] at this;omega
  ·intro b U;rcases Ab.mp U with U|U
   ·exact aN b U
   ·cases U
  ·intro q hq;rcases hq with hq|hq
   ·cases Aa.mp hq;exact Kb hB.q hg
   ·cases hq
  ·exact List.nodup_cons.mpr ⟨(λz=>by cases z),U0⟩
end
namespace Sy
variable {Y:Sy}
variable {n0:Str}
def Sr (h:Y.Ok){n:Str}{g:Y.G}{r don:oj (Str×Y.G)}(hs:SOk n0 ([(n,g)::r:don]:Ss Y))(hf:Y.fin g=V6)(hw:Y.want g=u_ m){o:om (om D)}(O:yet ([(n,g)::r:don]:Ss Y) m=u_ o):F Y m=o:=by
 erw[hs,[[s,k,U,hk],c2,c3],nd,Z,bot];unfold yet at O;by_cases c:m∈((n,g)::r).map (·.1)
 ·rw[A3 c] at O;cases O;have w:Wt Y n m:=⟨s,k,U,by rwa[<-hk],by rwa[<-hk]⟩
  rcases A9.mp c with rfl|hm
  ·exact XD h (.one w)
  ·exact XD h (.more (E4 (g:=g) [⟨s,k,U,hk⟩:c2:c3] hm) w)
 ·rw[A2 c] at O;cases hg:Y.g0 m with
  |none=>
   rw[hg] at O;cases O;exact X9 h hg
  |some gm=>
   rw[hg] at O;simp only at O;cases hd:Yd don m with
   |none=>rw[hd] at O;cases O
   |some gd=>
    rw[hd] at O;cases O;erw[Z _ (Xx hd),s',e1,e2];rw[hg] at e1;cases e1;have e3:gd=it Y (F Y) Y.M gm:=e2;rw[F_run h hg,e3]
nonrec def So (Y:Sy)(ns:oj Str)(n:Str)(g:Y.G):Prop:=∃s k,Y.g0 n=u_ s/\g=it Y (F Y) k s/\∀i,i<k->Y.fin (it Y (F Y) i s)=V6->∀m,Y.want (it Y (F Y) i s)=u_ m->Y.g0 m=U_∨m∈ns
def So.more {ns O:oj Str}{n:Str}{g:Y.G}(h:So Y ns n g)(hn:∀m∈ns,m∈O):So Y O n g:=by
 erw[h,s,k,h1,h2,h3];exact⟨s,k,h1,h2,λi hi U m Z=>(h3 i hi U m Z).imp id (hn m)⟩
nonrec def ZN (S:Ss Y):oj Str:=S.stk.map (·.1)++S.don.map (·.1)
nonrec def Clo (S:Ss Y):Prop:=∀p,p∈S.stk∨p∈S.don->So Y (ZN S) p.1 p.2
variable {S:Ss Y}
def O3 (h:Y.Ok)(hs:SOk n0 S)(c:Clo S):Clo (nxt S):=by
 erw[S,stk,don];cases stk with
 |nil=>exact c
 |cons p r=>
  erw[p,n,g];have c0:=c (n,g) (.inl uj);have on:∀g',Y.fin g=V6->step Y (F Y) g=g'->(∀m,Y.want g=u_ m->Y.g0 m=U_∨m∈ZN (⟨(n,g)::r,don⟩:Ss Y))->Clo (⟨(n,g')::r,don⟩:Ss Y):=by
   intro g' hf e hm p O;have U:∀m∈ZN (⟨(n,g)::r,don⟩:Ss Y),m∈ZN (⟨(n,g')::r,don⟩:Ss Y):=λm hm=>hm;have top:So Y (ZN (⟨(n,g')::r,don⟩:Ss Y)) n g':=by
    erw[c0,s,k,h1,h2,h3];have h2:g=it Y (F Y) k s:=h2;exists s,k+1,h1,by rw[wZ,<-h2,e],λi hi aa m hw=>?_
    by_cases ci:i<k
    ·exact(h3 i ci aa m hw).imp id (U m)
    ·have:i=k:=by omega
     subst this;rw[<-h2] at hw;exact(hm m hw).imp id (U m)
   rcases O with O|O
   ·rcases A9.mp O with rfl|O
    ·exact top
    ·exact(c p (.inl (ui _ O))).more U
   ·exact(c p (.inr O)).more U
  unfold nxt;simp only;cases hf:Y.fin g with
  |true=>
   rw[A3 rfl];have U:∀m∈ZN (⟨(n,g)::r,don⟩:Ss Y),m∈ZN (⟨r,don++ [(n,g)]⟩:Ss Y):=by
    intro m hm;unfold ZN at hm⊢;simp![uC,uD,U7,U9,uG,Ab,uH,uS] at hm⊢;rcases hm with hm|hm|hm
    ·exact .inr (.inr hm)
    ·exact .inl hm
    ·exact .inr (.inl hm)
   intro p O;rcases O with O|O
   ·exact(c p (.inl (ui _ O))).more U
   ·rcases Ab.mp O with O|O
    ·exact(c p (.inr O)).more U
    ·cases Aa.mp O;exact c0.more U
  |false=>
   rw[A2 uc];have Z:step Y (F Y) g=match Y.want g with
     |none=>Y.own g
     |some m=>match F Y m with
      |some a=>Y.tk g a
      |none=>Y.stuck g m:=by
    unfold step;rw[hf,A2 uc]
    all_goals rfl
   cases hw:Y.want g with
   |none=>exact on _ hf (by rw[Z,hw]) λm z=>by rw[hw] at z;cases z
   |some m=>
    rw[hw] at Z;simp only at Z⊢;cases hy:yet ([(n,g)::r:don]:Ss Y) m with
    |some o=>
     have hF:=Sr h hs hf hw hy;have hm:∀m',Y.want g=u_ m'->Y.g0 m'=U_∨m'∈ZN (⟨(n,g)::r,don⟩:Ss Y):=by
      intro m' z;rw[hw] at z;cases z;unfold yet at hy;by_cases cm:m∈((n,g)::r).map (·.1)
      ·exact .inr (vq _ cm)
      ·rw[A2 cm] at hy;cases hg:Y.g0 m with
       |none=>exact .inl rfl
       |some gm=>
        rw[hg] at hy;simp only at hy;cases hd:Yd don m with
        |none=>rw[hd] at hy;cases hy
        |some gd=>exact .inr (uQ _ (Ac.mpr [_:Xx hd:1]))
     cases o with
     |some a=>exact on _ hf (by rw[Z,hF]) hm
     |none=>exact on _ hf (by rw[Z,hF]) hm
    |none=>
     simp only;erw[jH hy,h1,[g',hg],h2];rw[hg];have U:∀m'∈ZN (⟨(n,g)::r,don⟩:Ss Y),m'∈ZN (⟨(m,g')::(n,g)::r,don⟩:Ss Y):=λm' hm=>ui _ hm;intro p O;rcases O with O|O
     ·rcases A9.mp O with rfl|O
      ·exact⟨g',(0),hg,1,λi hi=>A7 hi (Ur i)⟩
      ·exact(c p (.inl O)).more U
     ·exact(c p (.inr O)).more U
def Mt (h:Y.Ok){n0:Str}{S:Ss Y}(O:SOk n0 S)(c:Clo S):∀k,Clo (nx S k)
 |0=>c
 |k+1=>O3 h (nx_ok h O k) (Mt h O c k)
def Abu {n:Str}{g:Y.G}(U:Y.g0 n=u_ g):Clo (S0 Y n):=by
 unfold S0;rw[U];intro p O;rcases O with O|O
 ·cases Aa.mp O;exact⟨g,(0),U,1,λi hi=>A7 hi (Ur i)⟩
 ·cases O
variable {i:Nat}
def end_clo (h:Y.Ok){g0:Y.G}(U:Y.g0 n0=u_ g0){k:Nat}{don:oj (Str×Y.G)}(hk:nx (S0 Y n0) k=[[]:don]){p:Str×Y.G}(hp:p∈don){s:Y.G}(Z:Y.g0 p.1=u_ s)(hf:Y.fin (it Y (F Y) i s)=V6)(hw:Y.want (it Y (F Y) i s)=u_ m):Y.g0 m=U_∨m∈don.map (·.1):=by
 have c:=Mt h (S0_ok U) (Abu U) k;have ok:=nx_ok h (S0_ok U) k;rw[hk] at c ok;erw[c p (.inr hp),s',k',h1,h2,h3];rw[Z] at h1;cases h1;erw[ok.don p hp,s2,e1,e2];rw[Z] at e1;cases e1;have O:Y.fin (it Y (F Y) k' s)=true:=by
  rw[<-h2,e2];exact it_end h _ _ (h.l0 _ _ Z)
 have aa:i<k':=by
  rcases UG i k' with z|z
  ·exact z
  ·erw[UV z,d,rfl];rw[ZH,XS O,O] at hf;cases hf
 rcases h3 i aa hf m hw with z|z
 ·exact .inl z
 ·exact .inr (by simpa [ZN] using z)
end Sy
section
variable {qs qs':oj (Str×D)}
noncomputable abbrev FP (qs:oj (Str×D)):Sy.Orc:=Sy.F (SyP qs)
noncomputable abbrev itP (qs:oj (Str×D)) (k:Nat) (g:Gp):Gp:=Sy.it (SyP qs) (FP qs) k g
def zI (g:Gp):Sy.step (SyP qs) (FP qs) g=if g.en.isSome=v_ then g else match yJ g with
  |none=>na qs g
  |some m=>match FP qs m with
   |some a=>QX g (a.getD .non)
   |none=>Sh g m:=rfl
nonrec def QW (p:Gp):oj D:=p.ra++runPG' p.run
where runPG':om (oj Rw×Rn)->oj D
 |none=> []
 |some (_,r)=>r.gs
nonrec def GA (g:Gp):Prop:=g.run=U_->g.en=U_->g.ra= []
def Kh {rs:oj Rw}{own:Str}{gs:oj D}:∀(f:Nat) (B:Str->D) (p:Int) (n:Nat),(mF rs own gs f B p n).gs=gs
 |0,B,p,n=>rfl
 |f+1,B,p,n=>by
  unfold mF;by_cases c:p>↑rs
  ·rw[A3 c]
  ·rw[A2 c];cases U:mB own (Jd rs p) B p with
   |go O p'=>exact Kh f O p' (n+1)
   |stop e=>rfl
def Ig {r:Rn}{a:D}:(mo rs own r a).gs=r.gs++ [.tup [XT r.th,a]]:=by
 unfold mo;split
 ·rfl
 ·exact Kh _ _ _ _
def BK (h:g.run=U_)(d:D):QW (me g d)=g.ra/\GA (me g d):=by
 unfold me;split
 ·exists ?_,λ_ z=>by cases z
  show g.ra++QW.runPG' g.run=g.ra;rw[h];exact vg _
 ·cases hd:QI d with
  |none=>
   exists ?_,λ_ z=>by cases z
   show g.ra++QW.runPG' g.run=g.ra;rw[h];exact vg _
  |some rs=>
   exists ?_,λz=>by cases z
   show g.ra++(R0 rs g.n).gs=g.ra;rw[show(R0 rs g.n).gs= [] from Kh _ _ _ _]
   exact vg _
def zf (ha:GA g)(he:g.en=U_)(d:D):QW (QX g d)=QW g++ [.tup [yg g,d]]/\GA (QX g d):=by
 unfold QX;cases O:g.run with
 |none=>
  have U:=ha O he;erw[BK (g:=⟨g.n,g.mb,[.tup [.tup [.str "rule",g.mb],d]],U_,g.en⟩) rfl d,h1,h2];exists h1.trans ?_,h2;have e1:QW g= []:=by unfold QW;rw[U,O];rfl
  have Z:yg g= .tup [.str "rule",g.mb]:=by unfold yg;rw[O]
  rw[e1,Z]
  rfl
 |some p=>
  erw[p,rs,r];exists ?_,λz=>by cases z
  show g.ra++(mo rs g.n r d).gs=QW g++_;have Z:yg g=XT r.th:=by unfold yg;rw[O]
  have e3:QW g=g.ra++r.gs:=by unfold QW;rw[O];rfl
  rw[Ig,Z,e3,UT]
def KY {d:D}(h:g0D m d=u_ g):GA g/\QW g= []:=by
 unfold g0D at h;split at h
 ·split at h
  ·cases h
  ·split at h
   ·cases h;exact[λ_ _=>rfl:1]
   ·cases h;erw[BK (g:=⟨m,.non,[],U_,U_⟩) rfl _,h1,h2];exact[h2:h1]
 ·cases h
def DA (U:Qi qs)(O:g0D m (qH qs m)=U_):X6 ((zr (qH qs m)).getD .non):=by
 by_cases hm:m∈qs.map (·.1)
 ·erw[jU U hm,hn,k,e,hd,h1,h2];rw[hd] at O⊢;unfold g0D at O;simp only at O;by_cases c:k="leaf"
  ·exact .inr (h2 (by rw[c];decide+kernel)).2
  ·rw[A2 c] at O;split at O<;>cases O
 ·rw[Y3 hm];exact .inl rfl
def Zd (Z:Qi qs){f:Sy.Orc}(hf:∀m a,f m=u_ a->X6 (a.getD .non))(h:GI g)(ha:GA g):GI (Sy.step (SyP qs) f g)/\GA (Sy.step (SyP qs) f g):=by
 have e:Sy.step (SyP qs) f g=if g.en.isSome=v_ then g else match yJ g with
  |none=>na qs g
  |some m=>match f m with
   |some a=>QX g (a.getD .non)
   |none=>Sh g m:=rfl
 rw[e];cases O:g.en with
 |some d=>exact[h:ha]
 |none=>
  simp![vK,A2 uc];cases U:yJ g with
  |none=>
   erw[jL (qs:=qs) h O U,rs,r,k,z,_,_,hk,_,e];exists Ey Z h O U;show GA (na qs g);rw[e];exact(zf ha O _).2
  |some m=>
   simp only;cases hm:f m with
   |some a=>exact[Af h O (hf m a hm):(zf ha O _).2]
   |none=>exact⟨MI h m,λ_ z=>by cases z⟩
def LE (O:Qi qs){f:Sy.Orc}(U:∀m a,f m=u_ a->X6 (a.getD .non)):∀(k:Nat) {g:Gp},GI g->GA g->GI (Sy.it (SyP qs) f k g)/\GA (Sy.it (SyP qs) f k g)
 |0,g,h,ha=>[h:ha]
 |k+1,g,h,ha=>LE O U k (Zd O U h ha).1 (Zd O U h ha).2
def Sa (U:Qi qs):∀(k:Nat) (m:Str) (a:om D),Sy.Fh (SyP qs) k m=u_ a->X6 (a.getD .non)
 |0,m,a,h=>by
  cases O:(SyP qs).g0 m with
  |none=>rw[Sy.zX O] at h;cases h;exact DA U O
  |some g=>rw[Sy.wV O] at h;cases h
 |k+1,m,a,h=>by
  cases O:(SyP qs).g0 m with
  |none=>rw[Sy.zX O] at h;cases h;exact DA U O
  |some g=>
   rw[Sy.ka O] at h;have Z:=LE U (Sa U k) 302 (Kb U O).1 (KY O).1;cases hs:(SyP qs).said (Sy.it (SyP qs) (Sy.Fh (SyP qs) k) (SyP qs).M g) with
   |none=>rw[hs] at h;cases h
   |some v=>
    rw[hs] at h;cases h;exact .inr (sG Z.1 hs)
def Sc (O:Qi qs)(m:Str)(a:om D)(h:FP qs m=u_ a):X6 (a.getD .non):=by
 erw[(Sy.F_iff (Qs qs)).mp h,k,h];exact Sa O k m a h
def JX (O:Qi qs)(U:g0D m (qH qs m)=u_ g)(k:Nat):GI (itP qs k g)/\GA (itP qs k g):=LE O (Sc O) k (Kb O U).1 (KY U).1
end
nonrec def Dn (qs:oj (Str×D))(n:Str)(don:oj (Str×Gp)):Prop:=∃j,Sy.nx (Sy.S0 (SyP qs) n) j=[[]:don]
section
variable {qs:oj (Str×D)}{n:Str}{don don':oj (Str×Gp)}
def Abi (h:Dn qs n don)(k:Dn qs n don'):don=don':=by
 erw[h,i,hi];erw[k,j,O];have e:=Sy.nx_one (S:=Sy.S0 (SyP qs) n) (k:=i) (j:=j) (by rw[hi]) (by rw[O])
 rw[hi,O] at e;exact A8 Sy.Ss.don e
def Kf (O:g0D n (qH qs n)=U_)(h:Dn qs n don):don= []:=by
 have U:Sy.S0 (SyP qs) n=⟨[],[]⟩:=by unfold Sy.S0;rw[show(SyP qs).g0 n=U_ from O]
 exact Abi h [(0):U]
def Pv (O:g0D n (qH qs n)=u_ g)(h:Dn qs n don):Sy.SOk (Y:=SyP qs) n [[]:don]:=by
 erw[h,j,U];rw[<-U];exact Sy.nx_ok (Qs qs) (Sy.S0_ok O) j
def KH (O:g0D n (qH qs n)=u_ g)(h:Dn qs n don):(don.map (·.1)).getLast? =u_ n:=by
 rcases(Pv O h).bot with b|⟨_,b⟩
 ·cases b
 ·exact b
def zc (h:Dn qs n don){p:Str×Gp}(O:p∈don):∃s,g0D p.1 (qH qs p.1)=u_ s/\p.2=Sy.it (SyP qs) (Sy.F (SyP qs)) 302 s:=by
 cases U:g0D n (qH qs n) with
 |none=>rw[Kf U h] at O;cases O
 |some g=>exact(Pv U h).don p O
def LT (h:Dn qs n don):(don.map (·.1)).Nodup:=by
 cases O:g0D n (qH qs n) with
 |none=>rw[Kf O h];exact U0
 |some g=>exact(Pv O h).nd
end
nonrec def Id (p:Gp):D:= .tup (p.ra++nT p.run)
nonrec def LR (p:Gp):D:=p.en.getD .non
def Bv (p:Gp):JM p= .tup [Id p,LR p]:=rfl
def Aaj:∀{rk:oj (Key×V)}{don:oj (Str×Gp)},(rk.map (·.1)=don.map λp=>Va p.1)->∃vs:oj (Str×V),rk=lN vs/\vs.map (·.1)=don.map (·.1)/\vs.map (·.2)=rk.map (·.2)
 | [],[],_=>⟨[],1,1,1⟩
 | [],_::_,h=>by cases h
 |_::_,[],h=>by cases h
 |(k,v)::r,p::l,h=>by
  injection h with h1 h2
  erw[Aaj h2,vs,O,U,Z];exists (p.1,v)::vs,?_,?_,?_
  ·rw[Xw,<-O];have h1:k=Va p.1:=h1;rw[h1]
  ·rw[uC,uC,U]
  ·rw[uC,uC,Z]
def AcF {p:Gp}(h:GI p)(O:p.en.isSome=v_):nD (Id p)=v_/\dp (Id p)<=31/\nD (LR p)=v_/\dp (LR p)<=20:=by
 have h1:nL (p.ra++nT p.run)=v_/\dpL (p.ra++nT p.run)<=30:=by
  cases hr:p.run with
  |none=>exact⟨Be h.ra.1 rfl,Aj 30 h.ra.2.1 (by simp[dpL,nT])⟩
  |some q=>
   erw[q,rs,r];have h2:=(h.run rs r hr).2.1.gs;exact[Be h.ra.1 h2.1:Aj 30 h.ra.2.1 h2.2.1]
 refine⟨h1.1,by show 1+_<=31;omega,?_⟩
 unfold LR;cases U:p.en with
 |none=>rw[U] at O;cases O
 |some d=>
  show nD d=v_/\dp d<=20;rcases h.en d U with⟨z,rfl⟩|⟨x,rfl,Z⟩|⟨z,rfl⟩
  ·exact⟨1,by show dp (.tup [.str "fault",.str z])<=20;simp[dp,dpL]⟩
  ·have:=xr Z;exists ?_,?_
   ·simp![nD,nL,kK (yj Z),vU]
   ·simp![dp,dpL];omega
  ·exact⟨1,by simp[dp,dpL]⟩
variable {don:oj (Str×Gp)}
def MP {n:Str}(h:Dn qs n don)(hm:g0D m (qH qs m)=U_∨m∈don.map (·.1)):Sy.yet #[Y,[],don] m=u_ (FP qs m):=by
 cases U:(SyP qs).g0 m with
 |none=>
  unfold Sy.yet;rw[A2 (by intro z;cases z),U]
  show u_ (u_ ((SyP qs).once m))=u_ (FP qs m);rw[show FP qs m=_ from Sy.X9 (Qs qs) U]
 |some g=>
  rcases hm with hm|hm
  ·rw[show(SyP qs).g0 m=U_ from hm] at U;cases U
  ·erw[Ac.mp hm,[O,p],hp,rfl];have hd:Sy.Yd (Y:=SyP qs) don O=u_ p:=by
    have Z:=LT h;unfold Sy.Yd;have:(don.find? λq=>decide (q.1=O))=u_ (O,p):=by
     clear h hm
     induction don with
     |nil=>cases hp
     |cons q r ih=>
      rw[uC,U5] at Z;rcases A9.mp hp with rfl|hp
      ·rw[v5,A6 rfl]
      ·have aa:q.1≠O:=λz=>Z.1 (by rw[z];exact Ac.mpr [_:hp:1])
       rw[v5,ue aa];exact ih hp Z.2
    have e2:(FB (λq:Str×Gp=>decide (q.1=O)) don).map (·.2)=u_ p:=by rw[this];rfl
    exact e2
   erw[zc h hp,s,e2,e3];have e2:(SyP qs).g0 O=u_ s:=e2;rw[U] at e2;cases e2;unfold Sy.yet;rw[A2 (by intro z;cases z),U]
   show(Sy.Yd (Y:=SyP qs) don O).map (λg=>((SyP qs).said g).map u_)=u_ (FP qs O);rw[hd];show u_ (((SyP qs).said p).map u_)=u_ (FP qs O);rw[show FP qs O=_ from Sy.F_run (Qs qs) U]
   have e3:p=Sy.it (SyP qs) (Sy.F (SyP qs)) 302 g:=e3;rw[e3]
   rfl
end K24
namespace K24
open PySem L2 PyProof.Rows
structure Co (CO CP:o3)(H0 H:Hp)(qs:oj (Str×D))(n:Str)(o:Oc)(rk uk fk:oj (Key×V))(don:oj (Str×Gp)):Prop where
 sm:ia H0 H
 oa:OAt CO CP H o qs
 dr:H o.dr=u_ (.dK rk)
 ks:rk.map (·.1)=don.map λp=>Va p.1
 vs:L2.IsL H (don.map λp=>JM p.2) (rk.map (·.2))
 du:H o.du=u_ (.dK uk)
 uo:PK #[Y,[],don] uk
 df:H o.df=u_ (.dK fk)
 fd:Cq H #[Y,[],don] fk
 fl:↑fk<=20101
 dn:Dn qs n don
 sg:SGI #[Y,[],don]
 gi:∀p∈don,GI p.2/\p.2.en.isSome=v_
 len:↑don<=20001
 new:H0 o.x=U_/\H0 o.dr=U_/\H0 o.du=U_/\H0 o.df=U_
 ne:o.dr≠o.df/\o.du≠o.df
variable {CO CP:o3}{H H':Hp}{qs:oj (Str×D)}{fk:oj (Key×V)}{don:oj (Str×Gp)}
def Co.same {H0:Hp}{n:Str}{o:Oc}{rk uk:oj (Key×V)}(h:Co CO CP H0 H qs n o rk uk fk don)(s:ia H H'):Co CO CP H0 H' qs n o rk uk fk don:=
 ⟨h.sm.trans s,[s _ _ h.oa.e:h.oa.p.same s],s _ _ h.dr,h.ks,h.vs.mono s.tk,s _ _ h.du,h.uo,s _ _ h.df,h.fd.mono s.tk,h.fl,h.dn,h.sg,h.gi,h.len,h.new,h.ne⟩
inductive Ty:Sp
 |mk (z:_)(_:vs= [.str z])(_:nm z=v_)(_:∀H',ia H H'->Q .non H')
inductive NL:Sp
 |mk (t:_)(z:_)(_:vs= [.ref t])(_:H t=u_ (.tup [.str z]))(_:nm z=v_)(_:∀H',ia H H'->Q .non H')
inductive Ny (CO CP:Addr):Sp
 |mk (px t:Addr)(n:Str)(qs:List (Str×D))(_:vs= [.ref px,.ref t])(_:H t=u_ (.tup [.str n]))(_:nm n=v_)(_:yw CP H px qs)(_:Qi qs)(_:∀H' o rk uk fk don,o.px=px->Co CO CP H H' qs n o rk uk fk don->↑fk<=20001->Q (.ref o.x) H')
inductive NK (CO CP:Addr):Sp
 |mk (px:Addr)(n:Str)(qs:List (Str×D))(_:vs= [.ref px,.str n])(_:nm n=v_)(_:yw CP H px qs)(_:Qi qs)(_:∀H' o rk uk fk don,o.px=px->Co CO CP H H' qs n o rk uk fk don->↑fk<=20001->Q (.ref o.x) H')
def Ak {n:Str}(h:Dn qs n don):g0D n (qH qs n)=U_∨n∈don.map (·.1):=by
 cases O:g0D n (qH qs n) with
 |none=>exact .inl rfl
 |some g=>exact .inr (Uz (KH O h))
section
variable {P:o9}{w:og}{K:o0}{mg:Str->om o6}{base:o8}{a:Ad}{g:Ga}
def AaK:#[T,2,a.Zu,a.Zt,["name"],Ty]:=by
 have U:=#[zu,T];exists 9,T.mx,Km,Z
 erw[h,z,rfl,O,k];have hl:=wL O;exists 3,%[|#[qI,#[Qv,#[Qh,#[qv,16,U,Z.mono (),_,T.io.m,T.io.F.kp,T.io.b,.nil,qA,#v[pv 0],_,_,_]]],%[|YZ],qr]]
 exists 0,.str z,.str z,1,Yb (),λH1 s1=>[0:?_]
 have e:mG (.str z)=true:=O;rw[e];exact iP (k H1 s1)
def OS:#[T,3,a.zg,a.Xu,["names"],NL]:=by
 have O:=#[AaK,T];exists 9,T.mj,xq
 erw[h,t,z,rfl,Z,hz,k];exists 3,%[|#[Je,#[AU,4,pv 0],#[qN,(1),xq.nd],%[|#[Qd,#[qv,O,T.mx,#v[pv 1]]]]]]
 exists 0,t,1,[_:SqT.of Z];refine KA (xs:= [.str z]) (λi σ H'=>(∃u,σ= [u_ (.ref t),u])/\ia H H') [⟨0⟩:ia.refl _] (λi σ H' _ h=>SqT.of (h.2 _ _ Z)) ?_ ?_
 ·rintro i x σ H' hx ⟨⟨u,rfl⟩,s1⟩;have U:x= .str z:=by
   cases i with
   |zero=>exact(uN hx).symm
   |succ i=>cases hx
  subst U;exact⟨0,z,1,hz,λH2 s2=>[⟨0⟩:s1.trans s2]⟩
 ·rintro σ H' ⟨_,s1⟩;exact k H' s1
def OF:#[C,14,a.ZI,a.ZC,["project","names"],(Ny a.qq a.qJ)]:=by
 have KN:=#[OS,T];have Zc:=#[Ld,T];have jx:=#[Ot,T,C];exists 9,T.iX,jy
 erw[h,px,t,n,qs,rfl,ht,hn,hP,hq,k1];exists 3,%[#[Qd,#[qv,KN,T.mj,#v[pv 1]]],#[qG,(2),jy.nd,#[wn,T.M_PlainOrder,Zc,T.m_PlainOrder,T.lz,qA,#v[pv 0]]],#[Je,#[AU,4,pv 1],#[qN,(3),jy.nd],%[|#[Qd,#[Qf,pv 2,T.qy,T.iJ,jx,#v[pv 3]]]]]|#[qp,pv 2]]
 exists 8,N1,q1
 exists 0,t,n,1,ht,hn,λH1 s1=>q1 _ _ ?_;exists 8,N2,q2
 exists 0,λx dx hx aq nx=>?_;have s0:ia H1 (upd (upd H1 dx (.own x)) x (.ins a.qq dx [])):=λb o h=>by rwa[qj (qk h hx),qj (qk h aq)]
 exists x,dx,px,1,qg,λo H2 eo au aw kp tk f1 f2 f3 f4 nd ac ad ae af ag=>[1:q2 _ _ ?_];exists 8,N3,q3;have ax:ia H1 H2:=λb ob h=>kp b ob (s0 b ob h) (qk h hx);have O:=s1.trans ax;have ah:=O _ _ ht;subst eo au aw;have hB:Bs a.qq a.qJ H2 o qs:=⟨[ac:hP.same O],[_:ad],[_:ae],[_:af],[_:ag],nd,hq⟩
 exists 0,t,1,[_:SqT.of ah];have fr:∀b,upd (upd H1 o.dx (.own o.x)) o.x (.ins a.qq o.dx []) b=U_->H b=none:=λb U=>by
  cases e:H b with
  |none=>rfl
  |some ob=>rw[s0 b ob (s1 b ob e)] at U;cases U
 let J_:Nat->L2.St->Hp->Prop:=λi σ H'=>(∃u,σ= [u_ (.ref o.px),u_ (.ref t),u_ (.ref o.x),u])/\((i=0/\H'=H2)∨(i=1/\∃rk uk fk don,Co a.qq a.qJ H H' qs n o rk uk fk don/\↑fk<=20001))
 refine KA (xs:= [.str n]) J_ [⟨0⟩:.inl [1:1]] (λi σ H' _ h=>?_) ?_ ?_
 ·rcases h.2 with⟨_,rfl⟩|⟨_,rk,uk,fk,don,h,_⟩
  ·exact SqT.of ah
  ·exact SqT.of (h.sm _ _ ht)
 ·rintro i x' σ H' ak ⟨⟨u,rfl⟩,h⟩;have Z:x'= .str n/\i=0:=by
   cases i with
   |zero=>exact[(uN ak).symm:1]
   |succ i=>cases ak
  erw[Z,rfl,rfl];rcases h with⟨_,rfl⟩|⟨z,_⟩
  ·exists 0,o.x,o.dx,0,ac,zV o _ (),0,o,qs,n,1,hB,ad,ae,af,ag,λH3 rk uk fk don j al ay am aA aB aC k3 aD ao aE aF aG ap=>?_
   have out:∀b,H b≠U_->b∉LO o:=λb U z=>by
    simp![LO,uG,uH,uS] at z;rcases z with rfl|rfl|rfl|rfl
    ·exact U (fr _ f1)
    ·exact U (fr _ f2)
    ·exact U (fr _ f3)
    ·exact U (fr _ f4)
   have aa:=nd;simp![U5,uG,uH,uS,V3,U0,and_true,UW] at aa;have Z:H o.x=none:=by
    cases e:H o.x with
    |none=>rfl
    |some ob=>rw[s1 _ _ e] at hx;cases hx
   exact⟨⟨0⟩,.inr ⟨1,rk,uk,fk,don,⟨λb ob e=>k3.kept b ob (O b ob e) (out b (by rw[e];intro z;cases z)),hB.at k3,ao,aE,aF,al,ay,am,aA,(),[j:aD],aC,aG,ap,⟨Z,fr _ f3,fr _ f2,fr _ f4⟩,[aa.2.2:aa.2.1.2]⟩,aB⟩⟩
  ·cases z
 ·rintro σ H' ⟨⟨u,rfl⟩,h⟩;rcases h with⟨z,_⟩|⟨_,rk,uk,fk,don,h,hl⟩
  ·cases z
  ·exact q3 _ _ [0:k1 H' o rk uk fk don rfl h hl]
def kS:#[C,15,a.Zo,a.Zm,["project","name"],(NK a.qq a.qJ)]:=by
 have O:=#[OF,T,C];exists 9,T.iw,KR,U
 erw[h,px,n,qs,rfl,hn,Z,hq,k1];have hs:=uI;exists 3,%[|#[qp,#[qv,16,O,U.mono (),_,T.iX.m,T.iX.F.kp,T.iX.b,.nil,qA,#v[pv 0,#[qB,#v[pv 1]]],_,_,_]]]
 exists 0,0,(sml rfl),λt ht=>?_;have s1:=qf ht (.tup [V.str n]);exact⟨px,t,n,qs,1,qg,hn,Z.same s1,hq,λH' o rk uk fk don e h hl=>k1 H' o rk uk fk don e ⟨s1.trans h.sm,h.oa,h.dr,h.ks,h.vs,h.du,h.uo,h.df,h.fd,h.fl,h.dn,h.sg,h.gi,h.len,⟨s1.free h.new.1,s1.free h.new.2.1,s1.free h.new.2.2.1,s1.free h.new.2.2.2⟩,h.ne⟩ hl⟩
end
def KJ (p:Gp):Id p= .tup (QW p):=by
 unfold Id QW;cases p.run with
 |none=>rfl
 |some q=>rfl
nonrec def Sf (qs:oj (Str×D))(x:D):Prop:=∃kd z a,x= .tup [.tup [.str kd,.str z],a]/\↑z<=1000/\((mM kd=v_/\a=YX qs kd z)∨(mM kd=V6/\(kd="thing"∨kd="rule")/\∃y,FP qs z=u_ y/\a=y.getD .non))
variable {g:Gp}{m:Str}
def sB (h:GI g)(O:yJ g=u_ m):∃kd,yg g= .tup [.str kd,.str m]/\mM kd=false:=by
 unfold yJ at O;split at O
 ·rename_i k z e
  by_cases c:mM k=v_
  ·rw[A3 c] at O;cases O
  ·rw[A2 c] at O;cases O;exact⟨k,e,by simpa using c⟩
 ·cases O
variable {kd:Str}
def Su (h:GI g)(he:g.en=U_)(U:yg g= .tup [.str kd,.str m]):↑m<=1000:=by
 unfold yg at U;cases Z:g.run with
 |none=>
  rw[Z] at U;erw[h.no Z he,z,hz,hn];simp![hz] at U;cases U;have:=wL hn;omega
 |some p=>
  erw[p,rs,r];rw[Z] at U;erw[h.run rs r Z,_,_,ht,O];have O:=O he;rcases ht with⟨z,e⟩|⟨e1,e,_⟩|⟨u,z,e,hT,_⟩
  ·rw[e] at O;exact A7 (show decide (("fault":Str)="asks")=v_ from O) ()
  ·rw[e] at O;exact A7 (show decide (("said":Str)="asks")=v_ from O) ()
  ·simp![e] at U;have U:(D.tup [.str u,.str z])= .tup [.str kd,.str m]:=U;cases U;have:=YA hT;have:↑m<=600:=this;omega
def AbS (h:GI g)(he:g.en=U_)(O:yg g= .tup [.str kd,.str m])(hk:mM kd=V6):kd="thing"∨kd="rule":=by
 unfold yg at O;cases hr:g.run with
 |none=>
  rw[hr] at O;have O:D.tup [.str "rule",g.mb]= .tup [.str kd,.str m]:=O;injection O with O
  injection O with O _
  injection O with O
  exact .inr O.symm
 |some p=>
  erw[p,rs,r];rw[hr] at O;have O:XT r.th= .tup [.str kd,.str m]:=O;have Z:=(h.run rs r hr).2.2;have U:=Z.2 he;rcases Z.1 with⟨z,e1⟩|⟨e0,e1,_⟩|⟨u,z,e1,_,hu⟩
  ·rw[e1] at U;exact A7 (show decide (("fault":Str)="asks")=v_ from U) ()
  ·rw[e1] at U;exact A7 (show decide (("said":Str)="asks")=v_ from U) ()
  ·rw[e1] at O;have O:D.tup [.str u,.str z]= .tup [.str kd,.str m]:=O;cases O;rcases hu with rfl|⟨rfl|rfl,_⟩
   ·exact A7 hk ()
   ·exact .inl rfl
   ·exact A7 hk ()
section
variable {qs:oj (Str×D)}
def SY (hq:Qi qs)(h:GI g)(ha:GA g)(hF:∀x∈QW g,Sf qs x):∀x∈QW (Sy.step (SyP qs) (FP qs) g),Sf qs x:=by
 have aa:∀{d:D},g.en=U_->(∀kd z,yg g= .tup [.str kd,.str z]->(mM kd=v_/\d=YX qs kd z)∨(mM kd=V6/\(kd="thing"∨kd="rule")/\∃y,FP qs z=u_ y/\d=y.getD .non))->(∃kd z,yg g= .tup [.str kd,.str z])->∀x∈QW (QX g d),Sf qs x:=by
  intro d O h1 ⟨kd,z,e⟩ x U;rw[(zf ha O d).1] at U;rcases Ab.mp U with U|U
  ·exact hF x U
  ·cases Aa.mp U;exact⟨kd,z,d,by rw[e],Su h O e,h1 kd z e⟩
 rw[zI];cases O:g.en with
 |some d=>exact hF
 |none=>
  simp![vK,A2 uc];cases hw:yJ g with
  |none=>
   erw[jL (qs:=qs) h O hw,rs,r,k,z,ac,ad,hk,_,e];show∀x∈QW (na qs g),_;rw[e];have Z:yg g= .tup [.str k,.str z]:=by
    unfold yg;rw[ac];show XT r.th=_;rw[ad]
    rfl
   exact aa O (λkd y e2=>by rw[Z] at e2;cases e2;exact .inl [hk:1]) [k:z:Z]
  |some m=>
   simp only;erw[sB h hw,kd,Z,hk];cases ae:FP qs m with
   |some a=>exact aa O (λaf y e2=>by rw[Z] at e2;cases e2;exact .inr ⟨hk,AbS h O Z hk,a,ae,1⟩) [kd:m:Z]
   |none=>exact hF
def Adg (O:Qi qs):∀(k:Nat) {g:Gp},GI g->GA g->(∀x∈QW g,Sf qs x)->∀x∈QW (itP qs k g),Sf qs x
 |0,g,h,ha,t=>t
 |k+1,g,h,ha,t=>by
  erw[Zd O (Sc O) h ha,h1,h2];exact Adg O k h1 h2 (SY O h ha t)
def MT (U:Qi qs)(O:g0D m (qH qs m)=u_ g)(k:Nat):∀x∈QW (itP qs k g),Sf qs x:=
 Adg U k (Kb U O).1 (KY O).1 (λx Z=>by rw[(KY O).2] at Z;cases Z)
nonrec def iH (qs:oj (Str×D)) (m:Str):D:=match g0D m (qH qs m) with
 |none=>XB (qH qs m)
 |some g=>qU ((itP qs 302 g).en.getD .non)
def LS {n:Str}{p:Gp}(h:Dn qs n don)(U:(m,p)∈don):Sy.Yd (Y:=SyP qs) don m=u_ p:=by
 have O:=LT h;unfold Sy.Yd;have:(don.find? λq=>decide (q.1=m))=u_ (m,p):=by
  clear h
  induction don with
  |nil=>cases U
  |cons q r ih=>
   rw[uC,U5] at O;rcases A9.mp U with rfl|U
   ·rw[v5,A6 rfl]
   ·have Z:q.1≠m:=λz=>O.1 (by rw[z];exact Ac.mpr [_:U:1])
    rw[v5,ue Z];exact ih U O.2
 have e2:(FB (λq:Str×Gp=>decide (q.1=m)) don).map (·.2)=u_ p:=by rw[this];rfl
 exact e2
def Abp {n:Str}(h:Dn qs n don)(hm:g0D m (qH qs m)=U_∨m∈don.map (·.1)):Abq qs don m=iH qs m:=by
 unfold Abq iH;cases Z:g0D m (qH qs m) with
 |none=>rfl
 |some g=>
  rcases hm with hm|hm
  ·rw[Z] at hm;cases hm
  ·erw[Ac.mp hm,[m',p],hp,rfl];erw[zc h hp,s,O,U];have O:g0D m' (qH qs m')=u_ s:=O;rw[Z] at O;cases O;have U:p=itP qs 302 g:=U;simp![LS h hp];rw[<-U]
   rfl
nonrec def nC (d:D):om Str:=match d with
 | .tup [.str k,.str m]=>if k="stuck" then u_ m else U_
 |_=>U_
variable {e:D}{x:Str}
def AA (h:ThS e):e≠ .tup [.str "stuck",.str x]:=by
 intro z;rcases h with⟨y,rfl⟩|⟨y,rfl,_⟩|⟨u,y,rfl,_⟩
 ·injection z with z;injection z with z _;injection z with z;revert z;decide+kernel
 ·injection z with z;injection z with z _;injection z with z;revert z;decide+kernel
 ·injection z with z;injection z with z _;injection z with z;revert z;decide+kernel
def Abf {r:Rn}(h:ThS r.th)(k:mV r=u_ e):ThS e:=by
 unfold mV at k;by_cases c:QK r.th=v_
 ·rw[A3 c] at k;cases k
 ·rw[A2 c] at k;cases k;exact h
def MS {d:D}(k:(me g d).en=u_ e):ThS e:=by
 unfold me at k;split at k
 ·cases k;exact .inl ⟨0⟩
 ·cases O:QI d with
  |none=>rw[O] at k;cases k;exact .inl ⟨0⟩
  |some rs=>rw[O] at k;exact Abf (PP (X4 O).2) k
def CF {d:D}(h:GI g)(U:g.en=U_)(ha:X6 d)(k:(QX g d).en=u_ e):ThS e:=by
 unfold QX at k;cases O:g.run with
 |none=>rw[O] at k;exact MS k
 |some p=>
  erw[p,rs,r];rw[O] at k;erw[h.run rs r O,h1,h2,h3,h4];exact Abf (Ie h1 h2 (h4 U) ha) k
def CJ (hq:Qi qs){m x:Str}{s:Gp}(U:g0D m (qH qs m)=u_ s):∀k,(itP qs k s).en=u_ (.tup [.str "stuck",.str x])->∃i,(itP qs i s).en=U_/\yJ (itP qs i s)=u_ x/\FP qs x=U_
 |0,O=>by
  have O:s.en=u_ _:=O;unfold g0D at U;split at U
  ·split at U
   ·cases U
   ·split at U
    ·cases U;cases O
    ·cases U;exact A7 rfl (AA (MS O))
  ·cases U
 |k+1,O=>by
  have e0:itP qs (k+1) s=Sy.step (SyP qs) (FP qs) (itP qs k s):=Sy.wZ (Y:=SyP qs) k s;rw[e0,zI] at O;erw[JX hq U k,gi,ga];cases Z:(itP qs k s).en with
  |some d=>
   rw[Z] at O;simp![FJ,if_true] at O;exact CJ hq U k O
  |none=>
   rw[Z] at O;simp![vK,A2 uc] at O;cases hw:yJ (itP qs k s) with
   |none=>
    rw[hw] at O;erw[jL (qs:=qs) gi Z hw,rs,r,k',z,ad,ae,aa,_,e];have O:(na qs (itP qs k s)).en=_:=O;have ac:=Ey hq gi Z hw;rw[e] at O ac;exact A7 rfl (AA (CF gi Z (.inr (zO hq z aa).1) O))
   |some m'=>
    rw[hw] at O;simp only at O;cases hF:FP qs m' with
    |some a=>
     rw[hF] at O;exact A7 rfl (AA (CF gi Z (Sc hq _ _ hF) O))
    |none=>
     rw[hF] at O;have O:u_ (D.tup [.str "stuck",.str m'])=u_ (.tup [.str "stuck",.str x]):=O;cases O;exact⟨k,Z,hw,hF⟩
def SV (h:EnS e)(k:nC (qU e)=u_ x):e= .tup [.str "stuck",.str x]:=by
 rcases h with⟨z,rfl⟩|⟨y,rfl,_⟩|⟨z,rfl⟩
 ·have O:qU (flt z)=flt z:=by unfold qU flt;dsimp only;exact A2 ()
  rw[O] at k;have k:(if("fault":Str)="stuck" then u_ z else U_)=u_ x:=k
  rw[A2 ()] at k
  cases k
 ·have O:qU (.tup [.str "said",y])= .tup [.str "value",y]:=by unfold qU;dsimp only;exact A3 rfl
  rw[O] at k;cases y with
  |str w=>
   have k:(if("value":Str)="stuck" then u_ w else U_)=u_ x:=k
   rw[A2 ()] at k
   cases k
  |_=>cases k
 ·have O:qU (.tup [.str "stuck",.str z])= .tup [.str "stuck",.str z]:=by unfold qU;dsimp only;exact A2 ()
  rw[O] at k;have k:(if("stuck":Str)="stuck" then u_ z else U_)=u_ x:=k
  rw[A3 rfl] at k;cases k
  rfl
def yh {s:Gp}(O:g0D m (qH qs m)=u_ s):(itP qs 302 s).en.isSome=true:=Sy.it_end (Y:=SyP qs) (Qs qs) 302 s ((Qs qs).l0 m s O)
def SU (hq:Qi qs){n:Str}(h:Dn qs n don)(hm:m∈don.map (·.1))(Z:nC (iH qs m)=u_ x):x∈don.map (·.1):=by
 erw[Ac.mp hm,[m',p],hp,rfl];erw[zc h hp,s,O,e2];have O:g0D m' (qH qs m')=u_ s:=O;unfold iH at Z;rw[O] at Z;simp only at Z;have hf:=yh O;cases he:(itP qs 302 s).en with
 |none=>rw[he] at hf;cases hf
 |some e=>
  rw[he] at Z;have ee:=SV ((JX hq O 302).1.en e he) Z;rw[ee] at he;erw[CJ hq O 302 he,i,h1,h2,h3];have U:∃g,g0D n (qH qs n)=u_ g:=by
   cases c:g0D n (qH qs n) with
   |none=>rw[Kf c h] at hp;cases hp
   |some g=>exact[g:1]
  erw[U,g0,U];erw[h,j,hj];have fi:(SyP qs).fin (Sy.it (SyP qs) (Sy.F (SyP qs)) i s)=false:=by
   show(itP qs i s).en.isSome=V6;rw[h1]
   rfl
  rcases Sy.end_clo (Qs qs) U hj hp O (i:=i) (m:=x) fi h2 with c|c
  ·rw[show FP qs x=_ from Sy.X9 (Qs qs) c] at h3
   cases h3
  ·exact c
end
inductive IJ (CP:Addr):Sp
 |mk (px:Addr)(n:Str)(qs:List (Str×D))(gp:Gp)(_:vs= [.ref px,.str n])(_:nm n=v_)(_:yw CP H px qs)(_:Qi qs)(_:g0D n (qH qs n)=u_ gp)(_:∀v H',ia H H'->GI (itP qs 302 gp)->(itP qs 302 gp).en.isSome=v_->Is H' (JM (itP qs 302 gp)) v->Q v H')
inductive IP (CP:Addr):Sp
 |mk (px:Addr)(n:Str)(qs:List (Str×D))(_:vs= [.ref px,.str n])(_:nm n=v_)(_:yw CP H px qs)(_:Qi qs)(_:∀v H',ia H H'->Is H' (iH qs n) v->nrg (iH qs n)->Q v H')
section
variable {P:o9}{w:og}{K:o0}{mg:Str->om o6}{base:o8}{a:Ad}{g:Ga}
def Lk:#[C,16,a.WH,a.WX,["project","name"],(IJ a.qJ)]:=by
 have Q1:=#[kS,T,C];refine T.mS.F.ok Wg () (λ_ _ _ _ H vs Q E hr h=>?_)
 erw[h,px,n,qs,gp,rfl,hn,hP,hq,hg,k];exists 3,%[#[qG,(2),Wg.nd,#[qv,Q1,T.iw,#v[pv 0,pv 1]]],#[qI,#[AQ,6,#[Do,5,yb hr,pv 1,#[qO,5,pv 2,rfl]],_],%[|YZ],qr]|#[qp,#[QO,#[qO,5,pv 2,rfl],pv 1]]]
 exists 8,N1,q1
 exists 0,0,px,n,qs,1,hn,hP,hq,λH' o rk uk fk don _ h _=>q1 _ _ ?_;erw[Aaj h.ks,vs,e1,e2,e3];have hk:vs.map (·.1)=(don.map λq=>(q.1,JM q.2)).map (·.1):=by rw[e2,uU];rfl
 have hi:L2.IsL H' ((don.map λq=>(q.1,JM q.2)).map (·.2)) (vs.map (·.2)):=by rw[e3,uU];exact h.vs
 have Z:=h.dr;rw[e1] at Z;have he:=h.oa.e;exists 8,N2,q2
 exists 0,0,o.x,_,o.dx,_,0,he,T.qy,T.Ql,Ls o,o.dr,0,m9.k (k:=Va n) Z,0;have hl:=KH hg h.dn;have U:=Uz hl;erw[Ac.mp U,[m,p],aa,rfl];have ac:m∈(don.map λq=>(q.1,JM q.2)).map (·.1):=by rwa[uU]
 erw[Cf hk hi ac,l1,l2];have hd:qH (don.map λq=>(q.1,JM q.2)) m=JM p:=EX (by rw[uU];exact LT h.dn) (Ac.mpr [(m,p):aa:1])
 rw[hd] at l2;erw[zc h.dn aa,s0,f1,f2];have f1:g0D m (qH qs m)=u_ s0:=f1;have hg:g0D m (qH qs m)=u_ gp:=hg;rw[hg] at f1;cases f1;have f2:p=itP qs 302 gp:=f2;have O:=h.gi _ aa;have O:GI p/\p.en.isSome=true:=O;rw[l1];refine iL rfl (q2 _ _ ?_)
 exists 0,o.x,_,o.dx,_,0,he,T.qy,T.Ql,Ls o,0,o.dr,0,(by rw[<-l1];exact m9.k (k:=Va m) Z)
 rw[f2] at l2 O;exact k _ H' h.sm O.1 O.2 l2
def Ba:#[C,16,a.w8,a.wT,["project","name"],(IP a.qJ)]:=by
 have Q1:=#[kS,T,C];have qP:=#[AX,T];exists 9,T.iO,nR
 erw[h,px,n,qs,rfl,hn,hP,hq,k];exists 3,%[|#[qp,#[Qf,#[qv,Q1,T.iw,#v[pv 0,pv 1]],T.qy,T.ic,qP,#v[pv 1]]]]
 exists 0,0,px,n,qs,1,hn,hP,hq,λH1 o rk uk fk don _ O hl=>?_
 exists o.x,o.dx,0,O.oa.e,zV o _ (),0,o,n,qs,#[Y,[],don],uk,fk,1,O.oa,hq,O.sg,O.du,O.uo,O.df,O.fd,(),(λp hp=>(O.gi p hp).2),λv H2 aa k2 f2 d2 l2 _ y2=>?_
 unfold sw at y2;rw[MP O.dn (Ak O.dn)] at y2;erw[y2,d,hd,ha,hg];obtain⟨Z,U⟩:=hg (λz=>by cases z)
 have U:d=iH qs n:=U.trans (Abp O.dn (Ak O.dn));rw[U] at hd Z;refine k v H2 (λb ob e=>k2.kept b ob (O.sm b ob e) (λz=>?_)) hd Z;rw[Aa.mp z,O.new.2.2.2] at e;cases e
inductive S4 (CP:Addr):Sp
 |mk (px:Addr)(n:Str)(qs:List (Str×D))(_:vs= [.ref px,.str n])(_:nm n=v_)(_:yw CP H px qs)(_:Qi qs)(_:∀t H' don,ia H H'->H' t=u_ (.tup (don.map λp=>V.str p.1))->Dn qs n don->↑don<=20001->(∀p∈don,GI p.2/\p.2.en.isSome=v_)->Q (.ref t) H')
nonrec def chG (f:Str->D):Nat->oj Str->D->D
 |0,_,_=> .non
 |k+1,ns,a=>match nC a with
  |none=> .tup [.tup (ns.map D.str),.tup []]
  |some m=>if m∈ns then .tup [.tup (ns.map D.str),.tup ((ns.drop (ns.idxOf m)).map D.str)] else chG f k (ns++ [m]) (f m)
nonrec def vlO (d:D):Bool:=match d with
 | .tup (.str k::_)=>decide (k="value")||decide (k="lack")
 |_=>V6
nonrec def chD (qs:oj (Str×D)) (n:Str):D:=if vlO (iH qs n)=v_ then .tup [.tup [],.tup []] else chG (iH qs) 62 [n] (iH qs n)
def Sx (hq:Qi qs){n:Str}(h:vlO (iH qs n)=V6):∃g,g0D n (qH qs n)=u_ g:=by
 cases U:g0D n (qH qs n) with
 |some g=>exact[g:1]
 |none=>
  erw[ZT hq U,k,e1,O,e3];unfold iH at h;rw[U] at h
  try dsimp only at h
  rw[e1] at h;cases Z:zr (qH qs n) with
  |none=>
   rw[Z] at O;have O:D.tup k= .tup [.str "lack"]:=O;rw[O] at h;exact A7 h ()
  |some v=>
   rw[Z] at O;have O:D.tup k= .tup [.str "value",v]:=O;rw[O] at h;have h:(decide (("value":Str)="value")||decide (("value":Str)="lack"))=false:=h
   rw[A6 rfl] at h;cases h
variable {b:o3}{xs:oj V}
def Co.awayL {H0:Hp}{n:Str}{o:Oc}{rk uk:oj (Key×V)}(h:Co CO CP H0 H qs n o rk uk fk don)(k:Kp [b] H H')(U:H b=u_ (.lst xs))(hs:ia H0 H'):Co CO CP H0 H' qs n o rk uk fk don:=by
 have O:∀(c:o3) (ks:oj (Key×V)),H c=u_ (.dK ks)->c∉ [b]:=λc ks Z z=>by rw[Aa.mp z,U] at Z;cases Z
 exact⟨hs,h.oa.kp k (by intro p hp;cases Aa.mp hp;exact .inl [_:U]),k.kept _ _ h.dr (O _ _ h.dr),h.ks,h.vs.mono k.tk,k.kept _ _ h.du (O _ _ h.du),h.uo,k.kept _ _ h.df (O _ _ h.df),h.fd.mono k.tk,h.fl,h.dn,h.sg,h.gi,h.len,h.new,h.ne⟩
def L7 {CO CP:o3}{H0 H:Hp}{qs:oj (Str×D)}{n m:Str}{o:Oc}{rk uk fk:oj (Key×V)}{don:oj (Str×Gp)}{Q:VK}{E:XK}(hq:Qi qs)(O:Co CO CP H0 H qs n o rk uk fk don)(hl:↑fk<=20090)(hm:g0D m (qH qs m)=U_∨m∈don.map (·.1))
  (k:∀v H' fk',Co CO CP H0 H' qs n o rk uk fk' don->↑fk'<=↑fk+1->Kp [o.df] H H'->Is H' (iH qs m) v->nrg (iH qs m)->Q v H'):Me CO CP [.ref o.x,.str m] H Q E:=by
 exists o,m,qs,#[Y,[],don],uk,fk,1,O.oa,hq,O.sg,O.du,O.uo,O.df,O.fd,(),(λp hp=>(O.gi p hp).2),λv H1 fk1 k1 f1 d1 l1 _ y1=>?_
 unfold sw at y1;rw[MP O.dn hm] at y1;erw[y1,d,hd,_,hg];obtain⟨aa,U⟩:=hg (λz=>by cases z)
 have U:d=iH qs m:=U.trans (Abp O.dn hm);rw[U] at hd aa;have Z:∀c,c≠o.df->c∉ [o.df]:=λc hc z=>hc (Aa.mp z);have ac:∀c,H0 c≠U_->c∉ [o.df]:=λc hc=>Z c (λz=>hc (by rw[z];exact O.new.2.2.2))
 have ad:Co CO CP H0 H1 qs n o rk uk fk1 don:=⟨λb ob e=>k1.kept b ob (O.sm b ob e) (ac b (by rw[e];intro z;cases z)),O.oa.kp k1 (by intro p hp;cases Aa.mp hp;exact .inr (.inl [_:O.df])),k1.kept _ _ O.dr (Z _ O.ne.1),O.ks,O.vs.mono k1.tk,k1.kept _ _ O.du (Z _ O.ne.2),O.uo,f1,d1,by have:=O.fl;omega,O.dn,O.sg,O.gi,O.len,O.new,O.ne⟩
 exact k v H1 fk1 ad l1 k1 hd aa
def Es {x:Str}:∀{ns:oj Str},x∈ns->ns[ns.idxOf x]? =u_ x/\∀m,m<ns.idxOf x->ns[m]? ≠u_ x
 |y::r,h=>by
  by_cases c:y=x
  ·subst c;rw[List.idxOf_cons_self];exact[1:λm hm=>A7 hm (Ur m)]
  ·have O:x∈r:=by
    rcases A9.mp h with e|e
    ·exact A7 e.symm c
    ·exact e
   erw[Es O,h1,h2];have e:(y::r).idxOf x=r.idxOf x+1:=by
    have U:(y==x)=false:=beq_eq_false_iff_ne.mpr c;rw[List.idxOf_cons,U]
    rfl
   rw[e];exists h1,λm hm=>?_;cases m with
   |zero=>intro z;exact c (uN z)
   |succ m=>exact h2 m ()
def Kl:∀{l m:oj Str},l.Nodup->(∀x∈l,x∈m)->↑l<=↑m
 | [],m,_,_=>uP _
 |x::r,m,hn,h=>by
  have O:=List.nodup_cons.mp hn;have Z:=h x uj;have ih:=Kl (l:=r) (m:=m.erase x) O.2 λy hy=>by
   have U:y≠x:=λe=>O.1 (by rwa[<-e])
   exact(List.mem_erase_of_ne U).mpr (h y (ui _ hy))
  rw[List.length_erase_of_mem Z] at ih;have:=List.length_pos_of_mem Z;rw[uu];omega
def ES (O:Qi qs){n:Str}(h:Dn qs n don){ns:oj Str}(hn:ns.Nodup)(U:∀x∈ns,x∈don.map (·.1)):↑ns<=60:=by
 have:=Kl (m:=qs.map (·.1)) hn λx Z=>by
  erw[Ac.mp (U x Z),[m,p],hp,rfl];erw[zc h hp,s,e,_];exact(Qs qs).gn _ s e
 rw[ud] at this;exact uT this O.2.2
def Xy {H:Hp}:∀{zs:oj Str},(∀z∈zs,↑z<=100)->L2.IsL H (zs.map D.str) (zs.map V.str)
 | [],_=>rfl
 |z::r,h=>⟨_,0,Yb (by have:=h z uj;omega),Xy λy O=>h y (ui _ O)⟩
variable {x:Str}
def ER (O:Qi qs){n:Str}(h:Dn qs n don)(U:x∈don.map (·.1)):nm x=true:=by
 erw[Ac.mp U,[m,p],Z,rfl];erw[zc h Z,s,e,_];exact O.1.1.1 _ ((Qs qs).gn _ s e)
def MU (hq:Qi qs)(h:nrg (iH qs m)):∃k r,iH qs m= .tup (.str k::r)/\((k="stuck"/\∃x,r= [.str x]/\nC (iH qs m)=u_ x)∨(k≠"stuck"/\nC (iH qs m)=U_)):=by
 erw[h,k,r,e,hk];exists k,r,e;by_cases c:k="stuck"
 ·refine .inl [c:?_];subst c;unfold iH at e⊢;cases U:g0D m (qH qs m) with
  |none=>
   rw[U] at e;erw[ZT hq U,l,e1,O,e3]
   try dsimp only at e
   rw[e1] at e;cases ho:zr (qH qs m) with
   |none=>rw[ho] at O;rw[show D.tup l= .tup [.str "lack"] from O] at e;injection e with e;injection e with e _;injection e with e;exact A7 e ()
   |some v=>rw[ho] at O;rw[show D.tup l= .tup [.str "value",v] from O] at e;injection e with e;injection e with e _;injection e with e;exact A7 e ()
  |some g=>
   rw[U] at e
   try dsimp only at e⊢
   have hf:=yh U;cases Z:(itP qs 302 g).en with
   |none=>rw[Z] at hf;cases hf
   |some d=>
    rw[Z] at e;have e:qU d= .tup (.str "stuck"::r):=e;show∃x,r= [.str x]/\nC (qU d)=u_ x;rcases(JX hq U 302).1.en d Z with⟨z,rfl⟩|⟨y,rfl,_⟩|⟨z,rfl⟩
    ·have O:qU (flt z)=flt z:=by unfold qU flt;dsimp only;exact A2 ()
     rw[O] at e;injection e with e;injection e with e _;injection e with e;exact A7 e ()
    ·have O:qU (.tup [.str "said",y])= .tup [.str "value",y]:=by unfold qU;dsimp only;exact A3 rfl
     rw[O] at e;injection e with e;injection e with e _;injection e with e;exact A7 e ()
    ·have O:qU (.tup [.str "stuck",.str z])= .tup [.str "stuck",.str z]:=by unfold qU;dsimp only;exact A2 ()
     rw[O] at e⊢;injection e with e;injection e with _ e
     exact⟨z,e.symm,by show(if("stuck":Str)="stuck" then u_ z else U_)=u_ z;rw[A3 rfl]⟩
 ·refine .inr [c:?_];rw[e];cases r with
  |nil=>rfl
  |cons x r=>
   cases r with
   |cons y r=>cases x<;>rfl
   |nil=>
    cases x with
    |str z=>show(if k="stuck" then u_ z else U_)=U_;rw[A2 c]
    |_=>rfl
inductive IM (CP:Addr):Sp
 |mk (px:Addr)(n:Str)(qs:List (Str×D))(_:vs= [.ref px,.str n])(_:nm n=v_)(_:yw CP H px qs)(_:Qi qs)(_:∀v H',ia H H'->Is H' (chD qs n) v->Q v H')
def AaG:#[C,16,a.f_met_by,a.d_met_by,["project","name"],(S4 a.qJ)]:=by
 have O:=#[kS,T,C];exists 9,T.oR,C8,U
 erw[h,px,n,qs,rfl,hn,Z,hq,k];exists 3,%[|#[qp,#[qW,#[Ap,1,rfl],T.QH,vn,#v[#[qO,5,#[qv,16,O,U.mono (),_,T.iw.m,T.iw.F.kp,T.iw.b,.nil,qA,#v[pv 0,pv 1],_,_,_],rfl]]]]]
 exists 0,0,px,n,qs,1,hn,Z,hq,λH' o rk uk fk don _ h hl=>?_
 exists o.x,_,o.dx,_,0,h.oa.e,T.qy,T.Ql,Ls o,o.dr,rk,1,.inl h.dr,λt ht=>?_;refine k t _ don (h.sm.trans (qf ht _)) ?_ h.dn h.len h.gi;rw[qg];have e:(rk.map λp=>kV p.1)=don.map λp=>V.str p.1:=by
  have:=A8 (H_ kV) h.ks;rwa[uU,uU] at this
 rw[e]
def Lo:#[C,16,a.W3,a.WF,["project","name"],(IM a.qJ)]:=by
 have Q1:=#[kS,T,C];have qP:=#[AX,T];exists 9,T.mT,yR
 erw[h,px,n,qs,rfl,hn,hP,hq,k];have hs:=uI;exists 3,%[#[qG,(2),yR.nd,#[qv,Q1,T.iw,#v[pv 0,pv 1]]],#[qG,(3),yR.nd,#[Qf,pv 2,T.qy,T.ic,qP,#v[pv 1]]],#[qI,#[qm,8,QF,#[qF,qz,pv 3,qh],#[qB,#v[ql,ql]],#[w]],%[|#[qp,#[qB,#v[#[qB,qd],#[qB,qd]]]]],qr],#[qG,(4),yR.nd,#[Q9,#v[pv 1]]],#[JZ,#[qm,Qr,#[qF,qz,pv 3,qh],ql],%[#[qG,(5),yR.nd,#[qF,qz,pv 3,qh]],#[qI,#[qm,8,QF,pv 5,pv 4,#[w]],%[|#[qp,#[qB,#v[#[qW,qZ,T.QH,vn,#v[pv 4]],#[qW,qZ,T.QH,vn,#v[#[Ys,KI,pv 4,#[YM,#[jk,uW,PySem.F.slot_list_index,PySem.F.type_list_index,D5,pv 4,#v[pv 5]]],JC]]]]]]],qr],#[Qd,#[jk,uW,vz,vA,Yz,pv 4,#v[pv 5]]]|#[qG,(3),yR.nd,#[Qf,pv 2,T.qy,T.ic,qP,#v[pv 5]]]]]|#[qp,#[qB,#v[#[qW,qZ,T.QH,vn,#v[pv 4]],#[qB,qd]]]]]
 exists 8,N1,q1
 exists 0,0,px,n,qs,1,hn,hP,hq,λH1 o rk uk fk don _ hO hl=>q1 _ _ ?_;exists 8,N2,q2;have aY:=hl
 exists 0,o.x,o.dx,0,hO.oa.e,zV o _ (),0
 unfold Sg;refine L7 hq hO () (Ak hO.dn) λv H2 ao aB l2 K2 i2 nr=>q2 _ _ ?_
 erw[MU hq nr,kk,rr,ea,aC];rw[ea] at i2;erw[id i2,qa,wa,rfl,ap,w1,r1,rfl,[rfl,aU],h3];exists 8,N3,q3
 exists 0,qa,_,_,0,1,SqT.of ap,qE (j:=0) rfl,(sml rfl),λt ht=>?_;have s2:=qf ht (.tup [V.str "value",V.str "lack"])
 exists t,0,.inr (SqT.of qg),1,1,0;have aq:inV (V.str kk) [V.str "value",V.str "lack"]=decide (kk∈(["value","lack"]:oj Str)):=jd kk ["value","lack"];have aa:=aB.same s2;have i3:=i2.mono s2.tk;have au:=s2 _ _ ap;generalize upd H2 t (.tup [V.str "value",V.str "lack"])=H3 at aa i3 au⊢;have ak:vlO (iH qs n)=decide (kk∈(["value","lack"]:oj Str)):=by
  rw[ea];show(decide (kk="value")||decide (kk="lack"))=_
  simp
 by_cases cv:kk∈(["value","lack"]:oj Str)
 ·refine ld (aq.trans (A6 cv)) ?_
  exists uP _,λt1 h1=>[uP _:λt2 h2=>[(sml rfl):λt3 h3=>?_]];have m1:=qf h1 (.tup ([]:oj V));have m2:=qf h2 (.tup ([]:oj V));refine k _ _ (((aa.sm.trans m1).trans m2).trans (qf h3 _)) ?_;unfold chD;rw[ak,A6 cv,A3 rfl];exact Is.new (ds:= [.tup [],.tup []]) ⟨_,0,(Is.new (ds:= []) rfl h1).mono m2.tk,_,0,Is.new (ds:= []) rfl h2,1⟩ h3
 refine iL (aq.trans (ue cv)) (q3 _ _ ?_);have aD:chD qs n=chG (iH qs) 62 [n] (iH qs n):=by
  unfold chD;rw[ak,ue cv,A2 uc]
 obtain⟨g0,aE⟩:=Sx hq (by rw[ak,ue cv])
 have aw:n∈don.map (·.1):=Uz (KH aE hO.dn);exists 8,N4,q4
 exists 0,(sml rfl),λL hL=>q4 _ _ ?_;exists 8,N5,q5;have s4:=qf hL (.lst [V.str n]);have ax:upd H3 L (.lst [V.str n]) L=u_ (.lst (([n]:oj Str).map V.str)):=qg;have ay:=aa.same s4;have i4:=i3.mono s4.tk;have aF:H L=none:=aa.sm.free hL;generalize upd H3 L (.lst [V.str n])=H4 at ax ay i4⊢
 let J_:Nat->L2.St->Hp->Prop:=λmm σ H'=>∃(ns:oj Str) (m kk:Str) (rr:oj D) (qa:o3) (fk':oj (Key×V)) (u5:om V),mm=61-↑ns/\σ= [u_ (.ref px),u_ (.str n),u_ (.ref o.x),u_ (.ref qa),u_ (.ref L),u5]/\ns.Nodup/\(∀x∈ns,x∈don.map (·.1))/\m∈don.map (·.1)/\1<=↑ns/\H' L=u_ (.lst (ns.map V.str))/\Co a.qq a.qJ H H' qs n o rk uk fk' don/\↑fk'<=20002+↑ns/\iH qs m= .tup (.str kk::rr)/\Is H' (.tup (.str kk::rr)) (.ref qa)/\((kk="stuck"/\∃x,rr= [.str x]/\nC (iH qs m)=u_ x)∨(kk≠"stuck"/\nC (iH qs m)=U_))/\chG (iH qs) (63-↑ns) ns (iH qs m)=chD qs n
 exists 5
 refine⟨J_,⟨_,[n],n,kk,rr,qa,ao,U_,1,1,by simp,(λx hx=>by cases Aa.mp hx;exact aw),aw,uq _,ax,ay,by show ↑ao<=20003;omega,ea,i4,aC,aD.symm⟩,?_⟩
 rintro mm σ H7 ⟨ns,m,kk,rr,qa,aZ,u5,rfl,rfl,af,Z,aG,a1,O,ac,aV,a2,i7,aH,ad⟩;have aW:=ES hq hO.dn af Z;have U:∀z∈ns,↑z<=100:=λz hz=>by have:=wL (ER hq hO.dn (Z z hz));omega
 obtain⟨fu,aI⟩:∃fu,63-↑ns=fu+1:=[62-↑ns:()]
 rw[aI] at ad;erw[id i7,a3,wa,e1,ag,w1,r1,rfl,[rfl,aX],aJ];cases e1
 exists 0,qa,_,_,0,1,SqT.of ag,qE (j:=0) rfl,1,0;rcases aH with⟨rfl,x,rfl,hx⟩|⟨aK,hx⟩;rotate_left
 ·refine iL (ue (λz=>aK (V.str.inj z))) (q5 _ _ ?_)
  exists 0,L,0,.inl [SqL.of O:λt1 h1=>?_];have m1:=qf h1 (.tup (ns.map V.str))
  exists uP _,λt2 h2=>[(sml rfl):λt3 h3=>?_];have m2:=qf h2 (.tup ([]:oj V));refine k _ _ (((ac.sm.trans m1).trans m2).trans (qf h3 _)) ?_;rw[<-ad];unfold chG;rw[hx];exact Is.new (ds:= [.tup (ns.map D.str),.tup []]) ⟨_,0,⟨t1,0,m2 _ _ qg,Xy U⟩,_,0,Is.new (ds:= []) rfl h2,1⟩ h3
 refine ld (A6 rfl) ?_
 exists λσ' H'=>∃m',m'<61-↑ns/\J_ m' σ' H',λ_ _ h=>h;erw[aJ,w2,r2,rfl,[rfl,a4],aL];cases(show r2= [] from aL)
 have al:=SU hq hO.dn aG hx;exists 8,B1,b1
 exists 0,qa,_,_,0,1,SqT.of ag,qE (j:=1) rfl,b1 _ _ ?_;exists 8,B2,b2
 exists 0,0,L,0,.inl (SqL.of O),1,(by rw[Uq];exact List.all_eq_true.mpr λ_ _=>rfl),0
 have ah:inV (V.str x) (ns.map V.str)=decide (x∈ns):=jd x ns;by_cases cx:x∈ns
 ·refine ld (ah.trans (A6 cx)) ?_
  exists 0,L,0,.inl [SqL.of O:λt1 h1=>?_];have m1:=qf h1 (.tup (ns.map V.str));erw[Es cx,aM,aN]
  exists 0,0,.inl [1:_:SqL.of (m1 _ _ O)],0,L,ns,x,ns.idxOf x,1,1,SqL.of (m1 _ _ O),aM,aN,(),0,L,0,SqL.of (m1 _ _ O),λt4 h4=>?_
  have aO:ns.idxOf x<=↑ns:=List.idxOf_le_length;rw[JU (by rwa[ud]),<-tV]
  have m4:=qf h4 (.lst ((ns.drop (ns.idxOf x)).map V.str))
  exists t4,0,.inl [SqL.of qg:λt5 h5=>?_];have m5:=qf h5 (.tup ((ns.drop (ns.idxOf x)).map V.str))
  exists (sml rfl),λt6 h6=>?_;refine k _ _ ((((ac.sm.trans m1).trans m4).trans m5).trans (qf h6 _)) ?_;rw[<-ad];unfold chG;rw[hx]
  try dsimp only
  rw[A3 cx];exact Is.new (ds:= [.tup (ns.map D.str),.tup ((ns.drop (ns.idxOf x)).map D.str)]) ⟨_,0,⟨t1,0,m5 _ _ (m4 _ _ qg),Xy U⟩,_,0,⟨t5,0,qg,Xy λz hz=>U z (U1 hz)⟩,1⟩ h6
 ·refine iL (ah.trans (ue cx)) (b2 _ _ ?_);exists 8,B3,b3
  exists 0,.inl [1:_:SqL.of O],0,L,_,0,1,O,(by rw[ud];omega),b3 _ _ ?_
  have kL:Kp [L] H7 (upd H7 L (.lst (ns.map V.str++ [V.str x]))):=⟨λb ob e nb=>by rwa[qj (λz=>nb (Aa.mpr z))],Tk.updL O⟩
  have ae:=ac.awayL kL O (λb ob e=>by rw[qj (qk e aF)];exact ac.sm _ _ e)
  have am:upd H7 L (.lst (ns.map V.str++ [V.str x])) L=u_ (.lst ((ns++ [x]).map V.str)):=by rw[qg,uD];rfl
  generalize upd H7 L (.lst (ns.map V.str++ [V.str x]))=H8 at ae am⊢
  exists 0,o.x,o.dx,0,ae.oa.e,zV o _ (),0
  unfold Sg;refine L7 hq ae () (.inr al) λv H9 aP aQ l9 K9 i9 aR=>?_
  erw[MU hq aR,k9,r9,aA,aS];rw[aA] at i9;erw[id i9,q9,w9,rfl,_];have aT:L≠o.df:=λz=>by have:=ae.df;rw[<-z,am] at this;cases this
  exists 5
  refine⟨61-↑(ns++ [x]),by rw[uB,v9];omega,ns++ [x],x,k9,r9,q9,aP,0,1,?_,λy hy=>?_,al,(by rw[uB,v9];omega),K9.kept _ _ am (λz=>aT (Aa.mp z)),aQ,(by rw[uB,v9];omega),aA,i9,aS,?_⟩
  ·exact(Tf (l₁:= [x]) (l₂:=ns)).nodup_iff.mp (List.nodup_cons.mpr [cx:af])
  ·rcases Ab.mp hy with hy|hy
   ·exact Z y hy
   ·cases Aa.mp hy;exact al
  ·rw[<-ad];show _=chG (iH qs) (fu+1) ns (iH qs m)
   conv=>rhs;unfold chG
   rw[hx]
   try dsimp only
   rw[A2 cx,show 63-↑(ns++ [x])=fu by rw[uB,v9];omega]
inductive AbP (qs:List (Str×D))(m k:Str)(x:D):Prop
 |said (h0:k="said")(h1:vlO (iH qs m)=v_):AbP qs m k x
 |fault (h0:k="fault")(h1:vlO (iH qs m)=V6)(h2:nC (iH qs m)=U_):AbP qs m k x
 |stuck (z:Str)(s:Gp)(h0:k="stuck")(h1:vlO (iH qs m)=V6)(h2:x= .str z)(h3:nC (iH qs m)=u_ z)(h4:g0D z (qH qs z)=u_ s)(h5:vlO (iH qs z)=V6):AbP qs m k x
variable {e:D}
def J6 {s:Gp}(O:g0D m (qH qs m)=u_ s)(U:(itP qs 302 s).en=u_ e):iH qs m=qU e:=by
 unfold iH;rw[O]
 try dsimp only
 rw[U]
 rfl
def AbV (h:EnS e):vlO (qU e)=V6∨∃y,e= .tup [.str "said",y]:=by
 rcases h with⟨z,rfl⟩|⟨y,rfl,_⟩|⟨z,rfl⟩
 ·have O:qU (flt z)=flt z:=by unfold qU flt;dsimp only;exact A2 ()
  rw[O];exact .inl (by unfold flt vlO;dsimp only;decide+kernel)
 ·exact .inr [y:1]
 ·have O:qU (.tup [.str "stuck",.str z])= .tup [.str "stuck",.str z]:=by unfold qU;dsimp only;exact A2 ()
  rw[O];exact .inl (by unfold vlO;dsimp only;decide+kernel)
def BA (hq:Qi qs){s:Gp}(hg:g0D m (qH qs m)=u_ s):∃k x,LR (itP qs 302 s)= .tup [.str k,x]/\AbP qs m k x:=by
 have hf:=yh hg;unfold LR;cases he:(itP qs 302 s).en with
 |none=>rw[he] at hf;cases hf
 |some e=>
  have ha:=J6 hg he;have hE:=(JX hq hg 302).1.en e he;rcases id hE with⟨z,rfl⟩|⟨y,rfl,_⟩|⟨z,rfl⟩
  ·have Z:qU (flt z)=flt z:=by unfold qU flt;dsimp only;exact A2 ()
   rw[Z] at ha;exact⟨"fault",0,.fault rfl (by rw[ha];unfold flt vlO;dsimp only;decide+kernel) (by rw[ha];show(if("fault":Str)="stuck" then u_ z else U_)=U_;exact A2 ())⟩
  ·have Z:qU (.tup [.str "said",y])= .tup [.str "value",y]:=by unfold qU;dsimp only;exact A3 rfl
   rw[Z] at ha;exact⟨"said",0,.said rfl (by rw[ha];unfold vlO;dsimp only;rw[A6 rfl];rfl)⟩
  ·have Z:qU (.tup [.str "stuck",.str z])= .tup [.str "stuck",.str z]:=by unfold qU;dsimp only;exact A2 ()
   rw[Z] at ha;erw[CJ hq hg 302 he,i,h1,h2,h3];cases U:g0D z (qH qs z) with
   |none=>
    rw[show FP qs z=_ from Sy.X9 (Qs qs) U] at h3
    cases h3
   |some s'=>
    exists "stuck",0,.stuck z s' rfl (by rw[ha];unfold vlO;dsimp only;decide+kernel) rfl (by rw[ha];show(if("stuck":Str)="stuck" then u_ z else U_)=u_ z;exact A3 rfl) U ?_
    have aa:=yh U;cases O:(itP qs 302 s').en with
    |none=>rw[O] at aa;cases aa
    |some e'=>
     rw[J6 U O];rcases AbV ((JX hq U 302).1.en e' O) with h|⟨y,rfl⟩
     ·exact h
     ·have hF:FP qs z=_:=Sy.F_run (Qs qs) U;have hs:YJ (itP qs 302 s')=u_ y:=by
       unfold YJ;rw[O]
       rfl
      rw[h3,show(SyP qs).said (Sy.it (SyP qs) (Sy.F (SyP qs)) (SyP qs).M s')=YJ (itP qs 302 s') from rfl,hs] at hF
      cases hF
nonrec def chR (ns:oj Str)(b:Str):D:= .tup [.tup (ns.map D.str),.tup ((ns.drop (ns.idxOf b)).map D.str)]
inductive Ch (rs:List Rw)(own:Str):Rn->List D->Rn->Prop
 |nil (r:Rn):Ch rs own r [] r
 |cons {r r':Rn}{a:D}{as:List D}(u:Str)(d:D)(h1:r.th= .tup [.str "asks",.tup [.str u,d]])(h2:BL u a=v_)(h3:Ch rs own (mo rs own r a) as r'):Ch rs own r (a::as) r'
variable {rs:oj Rw}{own:Str}
def Ch.snoc {a:D}{r O:Rn}{as:oj D}(h:Ch rs own r as O)(u:Str)(d:D)(h1:O.th= .tup [.str "asks",.tup [.str u,d]])(h2:BL u a=v_):Ch rs own r (as++ [a]) (mo rs own O a):=by
 induction h with
 |nil r=>exact .cons u d h1 h2 (.nil _)
 |cons U d' k1 k2 _ Z=>exact .cons U d' k1 k2 (Z h1)
def Iu {r:Rn}{u:Str}{d:D}(h:r.th= .tup [.str "asks",.tup [.str u,d]]):QK r.th=true:=by
 rw[h];show decide (("asks":Str)="asks")=v_;exact A6 rfl
nonrec def PJ:D->D
 | .tup [_,a]=>a
 |_=> .non
nonrec def RC (g:Gp):Prop:=∀rs r,g.run=u_ (rs,r)->Ch rs g.n (R0 rs g.n) (r.gs.map PJ) r
def Mj {g:Gp}(h:g.run=U_)(d:D):RC (me g d):=by
 intro rs r e;by_cases hn:YI d=v_
 ·have U:me g d={g with en:=u_ (flt "lack")}:=A3 hn
  rw[U] at e;exact A7 (h.symm.trans e) (by intro z;cases z)
 ·cases Z:QI d with
  |none=>
   have U:me g d={g with en:=u_ (flt "rule")}:=by unfold me;rw[A2 hn,Z]
   rw[U] at e;exact A7 (h.symm.trans e) (by intro z;cases z)
  |some O=>
   have U:me g d={g with run:=u_ (O,R0 O g.n),en:=mV (R0 O g.n)}:=by unfold me;rw[A2 hn,Z]
   rw[U] at e⊢;cases e;have:(R0 rs g.n).gs= []:=Kh _ _ _ _;show Ch rs g.n (R0 rs g.n) ((R0 rs g.n).gs.map PJ) (R0 rs g.n);rw[this];exact .nil _
def Df {g:Gp}{d:D}(O:RC g)(U:∀rs r,g.run=u_ (rs,r)->∃u e,r.th= .tup [.str "asks",.tup [.str u,e]]/\BL u d=v_):RC (QX g d):=by
 cases h:g.run with
 |none=>
  have e:QX g d=me {g with ra:= [.tup [.tup [.str "rule",g.mb],d]]} d:=by unfold QX;rw[h]
  rw[e];exact Mj (g:={g with ra:= [.tup [.tup [.str "rule",g.mb],d]]}) h d
 |some p=>
  erw[p,rs,r];have Z:QX g d={g with run:=u_ (rs,mo rs g.n r d),en:=mV (mo rs g.n r d)}:=by unfold QX;rw[h]
  rw[Z];intro aa r' e;cases e;erw[U rs r h,u,x,h1,h2];have:=(O rs r h).snoc u x h1 h2;show Ch rs g.n (R0 rs g.n) ((mo rs g.n r d).gs.map PJ) (mo rs g.n r d);rw[Ig,uD];exact this
inductive Nt:Sp
 |mk (v:V)(t:Addr)(own:Str)(us:List V)(rs:List Rw)(as:List D)(r:Rn)(_:vs= [v,.str own,.ref t])(_:Is H (Ji rs) v)(_:ya rs)(_:nm own=v_)(_:H t=u_ (.tup us))(_:L2.IsL H as us)(_:↑as<=400)(_:Ch rs own (R0 rs own) as r)(_:∀u H',ia H H'->Is H' (.tup [.tup r.gs,r.th,.int 0]) u->Q u H')
def OB:#[C,8,a.kJ,a.W0,["rule","own","answers"],Nt]:=by
 have jh:=#[AY,T,C];have Qa:=#[Kj,T];have Yg:=#[Mr,T,C];have Yw:=#[DP,T];have yB:=#[DL,T];exists 9,T.mP,jM
 erw[h,v,t,own,us,rs,as,r,rfl,hv,hR,hn,ht,ad,ay,ag,k];have hs:=uI;have hl:=wL hn;have hI:∀H:Hp,Is H (.str own) (.str own):=λH=>Yb ()
 have aa:↑us=↑as:=↑ad;exists 3,%[#[qG,(3),jM.nd,#[wn,T.M_Machine,jh,T.m_Machine,T.lc,Aay,#v[pv 0,pv 1]]],#[qG,(4),jM.nd,qh],@JZ _ _ _ _ _ _ v6 #[X1,#[qm,Dv,pv 4,#[qx,qD,T.Q0,uL,#v[pv 2]]],#[jP,#[Qh,#[QR,pv 3,T.qt,T.il,Qa]]]].pt %[#[Qd,#[Qf,pv 3,T.qt,T.iM,Yg,#v[#[qF,qz,pv 2,pv 4]]]]|#[Dj,2,(4),6,jM.nd,rfl,Go rfl,qh,En,_]]|#[qp,#[qB,#v[#[QR,pv 3,T.qt,T.iS,Yw],#[QR,pv 3,T.qt,T.iN,yB],#[qY,WW,#[qx,qD,T.Q0,uL,#v[pv 2]],pv 4]]]]]
 exists 8,N1,q1
 exists 0,0,λx dx hx ah nx=>?_;have s0:ia H (upd (upd H dx (.own x)) x (.ins a.qo dx [])):=λb o h=>by rwa[qj (qk h hx),qj (qk h ah)]
 exists x,dx,v,.str own,Ji rs,.str own,1,qg,hv.mono s0.tk,hI _,λz=>?_,λ_ z=>?_,λO ax e1 ak e2 aA aB H1 db dg kept al am hM=>[1:q1 _ _ ?_]
 ·rw[hR.read] at z;cases z
 ·have:mG (.str own)=true:=hn;rw[this] at z;cases z
 have e3:O=rs:=by
  have h1:=hR.read;rw[e1,ak.read] at h1;exact uN h1
 cases e2;subst e3;have s1:ia H H1:=λb o h=>kept b o (s0 b o h) (qk h hx);have ae:H db=none:=s0.free al;have af:H dg=none:=s0.free am;exists 8,N2,q2;refine q2 _ _ ?_;exists 8,N3,q3
 let J_:Nat->L2.St->Hp->Prop:=λmm σ H'=>∃(i:Nat) (r1:Rn),mm=↑as-i/\σ= [u_ v,u_ (.str own),u_ (.ref t),u_ (.ref x),u_ (.int (i:Int))]/\i<=↑as/\yS a.qo H' ⟨x,db,dg,O,own⟩ r1/\Ih O r1/\Ch O own r1 (as.drop i) r/\ia H H'
 exists J_,⟨_,(0),0,1,uP _,hM,PQ hR,ag,s1⟩;rintro mm σ H2 ⟨i,r1,rfl,rfl,hi,M2,hO,hc,s2⟩;have ac:=s2 _ _ ht;erw[id M2,Z,U,_,_,_,_,e2,f2,_];have hm:∀n∈MTH,U.lookup n=none:=λn hn=>f2.meth n hn
 exists 0,0,t,0,.inr (SqT.of ac),_,0,1,0;rcases hdr:as.drop i with _|⟨an,rest⟩
 ·have aC:↑as<=i:=List.drop_eq_nil_iff.mp hdr;refine iL (ue (by rw[aa];omega)) (q3 _ _ ?_)
  rw[hdr] at hc;cases hc
  exists 0,x,Z,U,1,e2,hm _ (),⟨x,db,dg,O,own⟩,r,1,M2,λu1 H3 s3 i3=>?_
  have M3:=M2.same s3
  exists 0,x,Z,U,1,s3 _ _ e2,hm _ (),⟨x,db,dg,O,own⟩,r,1,M3,λu2 i4=>?_
  exists 0,t,0,.inr (SqT.of (s3 _ _ ac)),0,_,0,1,sml rfl,λt3 h3=>?_;refine k _ _ ((s2.trans s3).trans (qf h3 _)) (Is.new (ds:= [.tup r.gs,r.th,.int 0]) ⟨_,0,i3,_,0,i4,_,0,?_,1⟩ h3);show V.int _= .int 0;rw[aa,show i=↑as by omega,Int.sub_self]
 ·have ao:i<↑as:=by
   apply Nat.lt_of_not_le;intro z;rw[List.drop_eq_nil_iff.mpr z] at hdr;cases hdr
  rw[hdr] at hc;cases hc with
  |cons u d h1 h2 h3=>
  have hw:=Iu h1;refine ld (A6 (by rw[aa];omega)) ?_
  exists 0,x,Z,U,1,e2,hm _ (),⟨x,db,dg,O,own⟩,r1,1,M2,.inr [_:_:h1],0
  refine ld hw ?_
  exists λσ' H'=>∃m',m'<↑as-i/\J_ m' σ' H',λ_ _ h=>h;exists 8,B1,b1;have ap:as[i]? =u_ an:=by
   have:=A8 List.head? hdr
   rwa[List.head?_drop] at this
  erw[ad.get (i:=i) (d:=an) ap,uv,aq,au]
  exists 0,x,Z,U,1,e2,hm _ (),0,0,t,_,_,0,1,SqT.of ac,qE aq
  exists ⟨x,db,dg,O,own⟩,r1,uv,u,d,an,1,M2,hO,h1,au.mono s2.tk,hR,(by show ↑own<=100;omega),h2,λH3 mv M3=>b1 _ _ ?_
  have s3:ia H H3:=λb o e=>mv.kept b o (s2 _ _ e) (qk e hx) (qk e ae) (qk e af)
  exists 0,_,0,1
  exists ↑as-(i+1),(),i+1,0,1,ao,M3,At hR hO hw (Au h2),?_,s3
  have aw:as.drop (i+1)=rest:=by
   have:=A8 List.tail hdr
   rwa[List.tail_drop] at this
  rw[aw];exact h3
end
section
variable {qs:oj (Str×D)}
def NY (hq:Qi qs)(h:GI g)(hc:RC g):RC (Sy.step (SyP qs) (FP qs) g):=by
 rw[zI];cases he:g.en with
 |some d=>exact hc
 |none=>
  simp![vK,A2 uc];cases hw:yJ g with
  |none=>
   erw[jL (qs:=qs) h he hw,rs,r,k,z,aa,ac,hk,_,e];show RC (na qs g);rw[e];exact Df hc λae r' e'=>by
    rw[aa] at e';cases e';exact⟨k,_,ac,(zO hq z hk).2⟩
  |some m=>
   simp only;cases hF:FP qs m with
   |none=>exact λrs r e=>hc rs r e
   |some y=>
    refine Df hc λrs r e=>?_;erw[sB h hw,kd,U,hk];have Z:=(h.run rs r e).2.2;unfold yg at U;rw[e] at U;have U:XT r.th= .tup [.str kd,.str m]:=U;have O:=Z.2 he;rcases Z.1 with⟨z,e1⟩|⟨e0,e1,_⟩|⟨u,z,e1,_,hu⟩
    ·rw[e1] at O;exact A7 (show decide (("fault":Str)="asks")=v_ from O) ()
    ·rw[e1] at O;exact A7 (show decide (("said":Str)="asks")=v_ from O) ()
    ·rw[e1] at U;have U:D.tup [.str u,.str z]= .tup [.str kd,.str m]:=U;cases U;have ad:kd="thing":=by
      rcases hu with rfl|⟨rfl|rfl,_⟩
      ·exact A7 hk ()
      ·rfl
      ·exact A7 hk ()
     subst ad;exact⟨_,_,e1,kr (Sc hq _ _ hF)⟩
def Aal (O:Qi qs):∀(k:Nat) {g:Gp},GI g->GA g->RC g->RC (itP qs k g)
 |0,g,h,ha,t=>t
 |k+1,g,h,ha,t=>by
  erw[Zd O (Sc O) h ha,h1,h2];exact Aal O k h1 h2 (NY O h t)
def Acg {d:D}(h:g0D m d=u_ g):RC g:=by
 unfold g0D at h;split at h
 ·split at h
  ·cases h
  ·split at h
   ·cases h;intro rs r e;cases e
   ·cases h;exact Mj rfl _
 ·cases h
def Aah (U:Qi qs)(O:g0D m (qH qs m)=u_ g)(k:Nat):RC (itP qs k g):=Aal U k (Kb U O).1 (KY O).1 (Acg O)
variable {z:Str}
def L5 (hq:Qi qs){y:om D}(h:FP qs z=u_ y):(∀v,y=u_ v->iH qs z= .tup [.str "value",v])/\(y=U_->iH qs z= .tup [.str "lack"]/\z∉qs.map (·.1)):=by
 cases Z:g0D z (qH qs z) with
 |none=>
  rw[show FP qs z=_ from Sy.X9 (Qs qs) Z] at h
  have h:u_ (zr (qH qs z))=u_ y:=h;cases h;erw[ZT hq Z,k,e1,e2,_];have ea:iH qs z= .tup k:=by
   unfold iH;rwa[Z]
  rw[ea];constructor
  ·intro v hv;rwa[hv] at e2
  ·intro hv;rw[hv] at e2;exists e2,λhm=>?_;have O:=hq.1.2 _ (EY hq.1.1.2 hm);erw[O,[k',e',hd],_];have hd:qH qs z= .tup [.str k',e']:=hd;rw[hd] at hv;cases hv
 |some s=>
  have hF:=Sy.F_run (Qs qs) Z;rw[show Sy.F (SyP qs) z=u_ y from h] at hF
  have O:u_ y=(YJ (itP qs 302 s)).map some:=hF;cases he:(itP qs 302 s).en with
  |none=>unfold YJ at O;rw[he] at O;cases O
  |some e=>
   have ha:=J6 Z he;rcases(JX hq Z 302).1.en e he with⟨z',rfl⟩|⟨v,rfl,_⟩|⟨z',rfl⟩
   ·unfold YJ at O;rw[he] at O;have O:u_ y=(if("fault":Str)="said" then u_ (D.str z') else U_).map some:=O
    rw[A2 ()] at O
    cases O
   ·unfold YJ at O;rw[he] at O;have O:u_ y=(if("said":Str)="said" then u_ v else U_).map some:=O
    rw[A3 rfl] at O;cases O;have e2:qU (.tup [.str "said",v])= .tup [.str "value",v]:=by unfold qU;dsimp only;exact A3 rfl
    rw[ha,e2];exact⟨λv' U=>by cases U;rfl,λU=>by cases U⟩
   ·unfold YJ at O;rw[he] at O;have O:u_ y=(if("stuck":Str)="said" then u_ (D.str z') else U_).map some:=O
    rw[A2 ()] at O
    cases O
nonrec def Si (z:Str):D:= .tup [.str "stuck",.str z]
nonrec def AbX (z:Str):D:= .tup [.str "asks",.tup [.str "thing",.str z]]
nonrec def Hs (src:D)(pre:oj D)(rl:D):Prop:=(src= .tup [.str "rule",rl]/\pre= [])∨∃z:Str,src= .tup [.str "made",.str z]/\pre= [.tup [.tup [.str "rule",.str z],rl]]
inductive IG (src:D)(p:Gp):Prop
 |wait (z:Str)(h0:src= .tup [.str "made",.str z])(h1:p.mb= .str z)(h2:p.run=U_)(h3:p.ra= [])(h4:p.en=U_∨p.en=u_ (Si z)):IG src p
 |lack (pre:List D)(rl:D)(h0:Hs src pre rl)(h1:p.ra=pre)(h2:p.run=U_)(h3:YI rl=v_)(h4:p.en=u_ (flt "lack")):IG src p
 |bad (pre:List D)(rl:D)(h0:Hs src pre rl)(h1:p.ra=pre)(h2:p.run=U_)(h3:YI rl=V6)(h5:QI rl=U_)(h4:p.en=u_ (flt "rule")):IG src p
 |run (pre:List D)(rl:D)(rs:List Rw)(r:Rn)(h0:Hs src pre rl)(h1:p.ra=pre)(h2:p.run=u_ (rs,r))(h3:YI rl=V6)(h5:QI rl=u_ rs)(h4:p.en=mV r∨∃z,p.en=u_ (Si z)/\r.th=AbX z):IG src p
def MH {src:D}{pre:oj D}{rl:D}(h:g.run=U_)(hs:Hs src pre rl)(hp:g.ra=pre):IG src (me g rl)/\(me g rl).n=g.n:=by
 cases hn:YI rl with
 |true=>
  have O:me g rl={g with en:=u_ (flt "lack")}:=A3 hn
  rw[O];exact[.lack pre rl hs hp h hn rfl:1]
 |false=>
  have U:¬YI rl=true:=by rw[hn];exact uc
  cases Z:QI rl with
  |none=>
   have O:me g rl={g with en:=u_ (flt "rule")}:=by unfold me;rw[A2 U,Z]
   rw[O];exact[.bad pre rl hs hp h hn Z rfl:1]
  |some rs=>
   have O:me g rl={g with run:=u_ (rs,R0 rs g.n),en:=mV (R0 rs g.n)}:=by unfold me;rw[A2 U,Z]
   rw[O];exact[.run pre rl rs _ hs hp rfl hn Z (.inl rfl):1]
def Acy (Z:Qi qs)(h:g0D m (qH qs m)=u_ g):IG (qH qs m) g:=by
 have hm:m∈qs.map (·.1):=(Qs qs).gn m g h;erw[jU Z hm,_,k,e,hd,h1,h2];rw[hd] at h⊢;have h:(if k="leaf" then U_ else if k="made" then u_ (⟨m,e,[],U_,U_⟩:Gp) else u_ (me ⟨m,.non,[],U_,U_⟩ e))=u_ g:=h
 by_cases U:k="leaf"
 ·rw[A3 U] at h;cases h
 rw[A2 U] at h;by_cases O:k="made"
 ·rw[A3 O] at h;cases h;erw[h1 O,z,rfl,_];subst O;exact .wait z rfl rfl rfl rfl (.inl rfl)
 ·rw[A2 O] at h;cases h;have hk:k="rule":=by
   rcases(h2 O).1 with h|h
   ·exact A7 h U
   ·exact h
  subst hk;exact(MH (g:=⟨m,.non,[],U_,U_⟩) rfl (.inl [1:1]) rfl).1
def Pi (hq:Qi qs){src:D}(h:GI g)(hi:IG src g):IG src (Sy.step (SyP qs) (FP qs) g):=by
 rw[zI];cases he:g.en with
 |some d=>exact hi
 |none=>
  simp![vK,A2 uc];cases hi with
  |lack pre rl h0 h1 h2 h3 h4=>rw[he] at h4;cases h4
  |bad pre rl h0 h1 h2 h3 h5 h4=>rw[he] at h4;cases h4
  |wait z h0 h1 h2 h3 h4=>
   have hw:yJ g=u_ z:=by
    unfold yJ yg;rw[h2]
    try dsimp only
    rw[h1]
    try dsimp only
    exact A2 ()
   rw[hw]
   try dsimp only
   cases hF:FP qs z with
   |none=>exact .wait z h0 h1 h2 h3 (.inr rfl)
   |some y=>
    have e:QX g (y.getD .non)=me {g with ra:= [.tup [.tup [.str "rule",g.mb],y.getD .non]]} (y.getD .non):=by unfold QX;rw[h2]
    show IG src (QX g (y.getD .non));rw[e];exact(MH (g:={g with ra:= [.tup [.tup [.str "rule",g.mb],y.getD .non]]}) h2 (.inr ⟨z,h0,by rw[h1]⟩) rfl).1
  |run pre rl rs r h0 h1 h2 h3 h5 h4=>
   have tk:∀d,IG src (QX g d):=λd=>by
    have e:QX g d={g with run:=u_ (rs,mo rs g.n r d),en:=mV (mo rs g.n r d)}:=by unfold QX;rw[h2]
    rw[e];exact .run pre rl rs _ h0 h1 rfl h3 h5 (.inl rfl)
   cases hw:yJ g with
   |none=>
    erw[jL (qs:=qs) h he hw,aa,r',k,z,ac,ad,hk,_,e];show IG src (na qs g);rw[e];exact tk _
   |some m=>
    try dsimp only
    cases hF:FP qs m with
    |some y=>exact tk _
    |none=>
     erw[sB h hw,kd,U,hk];have Z:=(h.run rs r h2).2.2;unfold yg at U;rw[h2] at U;have U:XT r.th= .tup [.str kd,.str m]:=U;have O:=Z.2 he;refine .run pre rl rs r h0 h1 h2 h3 h5 (.inr [m:1:?_]);rcases Z.1 with⟨z,e1⟩|⟨e0,e1,_⟩|⟨u,z,e1,_,hu⟩
     ·rw[e1] at O;exact A7 (show decide (("fault":Str)="asks")=v_ from O) ()
     ·rw[e1] at O;exact A7 (show decide (("said":Str)="asks")=v_ from O) ()
     ·rw[e1] at U⊢;have U:D.tup [.str u,.str z]= .tup [.str kd,.str m]:=U;cases U;rcases hu with rfl|⟨rfl|rfl,_⟩
      ·exact A7 hk ()
      ·rfl
      ·exact A7 hk ()
def SW (g:Gp):(Sy.step (SyP qs) (FP qs) g).n=g.n:=by
 rw[zI];split
 ·rfl
 ·split
  ·exact Aaz qs g
  ·split
   ·exact CD g _
   ·rfl
def Aa6 (O:Qi qs){src:D}:∀(k:Nat) {g:Gp},GI g->GA g->IG src g->IG src (itP qs k g)/\(itP qs k g).n=g.n
 |0,g,h,ha,t=>[t:1]
 |k+1,g,h,ha,t=>by
  erw[Zd O (Sc O) h ha,h1,h2];erw[Aa6 O k h1 h2 (Pi O h t),U,Z];exact[U:Z.trans (SW g)]
inductive Fn (qs:List (Str×D))(m:Str)(src:D)(as:List D)(en:D):Prop
 |wait (z:Str)(h0:src= .tup [.str "made",.str z])(h1:as= [])(h2:en=Si z):Fn qs m src as en
 |lack (pre:List D)(rl:D)(h0:Hs src pre rl)(h1:as=pre)(h3:YI rl=v_)(h4:en=flt "lack"):Fn qs m src as en
 |bad (pre:List D)(rl:D)(h0:Hs src pre rl)(h1:as=pre)(h3:YI rl=V6)(h5:QI rl=U_)(h4:en=flt "rule"):Fn qs m src as en
 |run (pre:List D)(rl:D)(rs:List Rw)(r:Rn)(h0:Hs src pre rl)(h1:as=pre++r.gs)(h3:YI rl=V6)(h5:QI rl=u_ rs)(h6:Ch rs m (R0 rs m) (r.gs.map PJ) r)(h7:Ih rs r)(h8:ThS r.th)(h4:en=r.th∨∃z,en=Si z/\r.th=AbX z):Fn qs m src as en
def Pu (hq:Qi qs)(Z:g0D m (qH qs m)=u_ g):Fn qs m (qH qs m) (QW (itP qs 302 g)) (LR (itP qs 302 g)):=by
 erw[Kb hq Z,hG,hn];erw[Aa6 hq 302 hG (KY Z).1 (Acy hq Z),hi,aa];have O:=yh Z;have ac:=Aah hq Z 302;have U:=(JX hq Z 302).1;generalize itP qs 302 g=p at hi aa O ac U;unfold LR QW;cases hi with
 |wait z h0 h1 h2 h3 h4=>
  rcases h4 with h4|h4
  ·rw[h4] at O;cases O
  ·rw[h2,h3,h4];exact .wait z h0 rfl rfl
 |lack pre rl h0 h1 h2 h3 h4=>
  rw[h2,h4,h1];exact .lack pre rl h0 (vg _) h3 rfl
 |bad pre rl h0 h1 h2 h3 h5 h4=>
  rw[h2,h4,h1];exact .bad pre rl h0 (vg _) h3 h5 rfl
 |run pre rl rs r h0 h1 h2 h3 h5 h4=>
  have hc:=ac rs r h2;rw[aa,hn] at hc;have hO:=(U.run rs r h2).2.1;have ad:=(U.run rs r h2).2.2.1;rw[h2,h1];refine .run pre rl rs r h0 rfl h3 h5 hc hO ad ?_;rcases h4 with h4|⟨z,h4,h6⟩
  ·rw[h4] at O⊢;unfold mV at O⊢;by_cases c:QK r.th=v_
   ·rw[A3 c] at O;cases O
   ·rw[A2 c];exact .inl rfl
  ·rw[h4];exact .inr [z:1:h6]
end
mutual
theorem Ew:∀{d:D},iK d=v_->kD d=v_
 | .str z,_=>by simp[kD]
 | .tup xs,h=>by
  have:=goodL_k (xs:=xs) (by simp![iK,uF] at h;exact h.2)
  simpa [kD] using this
 | .non,h=>by simp[iK] at h
 | .int _,h=>by simp[iK] at h
 | .bl _,h=>by simp[iK] at h
 | .lst,h=>by simp[iK] at h
 | .dct,h=>by simp[iK] at h
theorem goodL_k:∀{xs:oj D},goodL xs=v_->kL xs=v_
 | [],_=>by simp[kL]
 |x::r,h=>by
  have h':iK x=v_/\goodL r=true:=by simpa [goodL] using h
  simp[kL,Ew h'.1,goodL_k h'.2]
end
def AaV (O:Qi qs){k:Str}(z:Str)(U:mM k=v_):kD (YX qs k z)=v_/\dp (YX qs k z)<=12:=
 [Ew (yj (zO O z U).1):xr (zO O z U).1]
def AbK (U:Qi qs){v:D}(h:FP qs m=u_ (u_ v)):isT v=true:=by
 erw[(Sy.F_iff (Qs qs)).mp h,k,h];cases O:(SyP qs).g0 m with
 |none=>
  rw[Sy.zX O] at h;have h:zr (qH qs m)=u_ v:=uN h;by_cases hm:m∈qs.map (·.1)
  ·erw[jU U hm,hn,kk,e,hd,h1,h2];have O:g0D m (qH qs m)=none:=O;rw[hd] at O h;unfold g0D at O;simp only at O;cases(show u_ e=u_ v from h)
   by_cases c:kk="leaf"
   ·exact(h2 (by rw[c];decide+kernel)).2
   ·rw[A2 c] at O;split at O<;>cases O
  ·rw[Y3 hm] at h;cases h
 |some g=>
  cases k with
  |zero=>rw[Sy.wV O] at h;cases h
  |succ k=>
   rw[Sy.ka O] at h;have Z:=LE U (Sa U k) 302 (Kb U O).1 (KY O).1;cases hs:(SyP qs).said (Sy.it (SyP qs) (Sy.Fh (SyP qs) k) (SyP qs).M g) with
   |none=>rw[hs] at h;cases h
   |some u=>
    rw[hs] at h;cases h;exact sG Z.1 hs
nonrec def SA (d:D):D:=match d with
 | .tup [.str k,x]=>if k="value" then x else .non
 |_=> .non
def Cu (hq:Qi qs)(m:Str):∃k r,iH qs m= .tup (.str k::r)/\↑k<=10/\(k="value"->∃x,r= [x]/\FP qs m=u_ (u_ x)):=by
 cases O:g0D m (qH qs m) with
 |none=>
  have Z:FP qs m=_:=Sy.X9 (Qs qs) O;erw[L5 hq Z,h1,h2];have Z:FP qs m=u_ (zr (qH qs m)):=Z;cases hy:zr (qH qs m) with
  |none=>exact⟨_,_,(h2 hy).1,(),λh=>A7 h ()⟩
  |some v=>exact⟨_,_,h1 v hy,(),λ_=>⟨v,1,by rw[Z,hy]⟩⟩
 |some s=>
  have hf:=yh O;cases he:(itP qs 302 s).en with
  |none=>rw[he] at hf;cases hf
  |some e=>
   have ha:=J6 O he;rcases(JX hq O 302).1.en e he with⟨z,rfl⟩|⟨v,rfl,_⟩|⟨z,rfl⟩
   ·have U:qU (flt z)=flt z:=by unfold qU flt;dsimp only;exact A2 ()
    rw[ha,U];exact⟨_,0,(),λh=>A7 h ()⟩
   ·have U:qU (.tup [.str "said",v])= .tup [.str "value",v]:=by unfold qU;dsimp only;exact A3 rfl
    rw[ha,U];exists _,0,(),λ_=>[v:1:?_]
    rw[show FP qs m=_ from Sy.F_run (Qs qs) O]
    show(YJ (itP qs 302 s)).map u_=_;unfold YJ;rw[he]
    rfl
   ·have U:qU (.tup [.str "stuck",.str z])= .tup [.str "stuck",.str z]:=by unfold qU;dsimp only;exact A2 ()
    rw[ha,U];exact⟨_,0,(),λh=>A7 h ()⟩
def Cv {k:Str}{r:oj D}(h:k≠"value"):SA (.tup (.str k::r))= .non:=by
 match r with
 | []=>rfl
 | [x]=>show(if k="value" then x else .non)=_;exact A2 h
 |_::_::_=>rfl
inductive SZ (CP:Addr):Sp
 |mk (px:Addr)(n:Str)(qs:List (Str×D))(_:vs= [.ref px,.str n])(_:nm n=v_)(_:yw CP H px qs)(_:Qi qs)(_:∀v H',ia H H'->Is H' (SA (iH qs n)) v->Q v H')
nonrec def AdZ (qs:oj (Str×D))(kd z:Str)(an:D):Prop:=(mM kd=v_/\an=YX qs kd z)∨(mM kd=V6/\(kd="thing"∨kd="rule")/\∃y,FP qs z=u_ y/\an=y.getD .non)
inductive Nl (CP:Addr):Sp
 |mk (px t:Addr)(av:V)(kd z:Str)(an:D)(qs:List (Str×D))(_:vs= [.ref px,.ref t,av])(_:H t=u_ (.tup [.str kd,.str z]))(_:yw CP H px qs)(_:Qi qs)(_:Is H an av)(_:AdZ qs kd z an)(_:↑z<=1000)(_:∀H',ia H H'->Q (.bl v_) H')
inductive CY:Sp
 |mk (sv av:V)(src rl:D)(pre gs:List D)(_:vs= [sv,av])(_:Is H src sv)(_:Hs src pre rl)(_:Is H (.tup (pre++gs)) av)(_:∀u H',ia H H'->Is H' (.tup [rl,.tup gs]) u->Q u H')
section
variable {P:o9}{w:og}{K:o0}{mg:Str->om o6}{base:o8}{a:Ad}{g:Ga}
def DC:#[C,17,a.WG,a.WB,["project","name"],(SZ a.qJ)]:=by
 have Yy:=#[Ba,T,C];exists 9,T.lO,wj
 erw[h,px,n,qs,rfl,hn,hP,U,k];exists 3,%[#[qG,(2),wj.nd,#[qv,Yy,T.iO,#v[pv 0,pv 1]]]|#[qp,#[Q6,#[qm,Qr,#[qF,qz,pv 2,qh],ql],#[qF,qz,pv 2,qh],qT]]]
 exists 8,N1,q1
 exists 0,0,px,n,qs,1,hn,hP,U,λv H1 s1 O _=>q1 _ _ ?_;erw[Cu U n,kk,r,e,aa,hx];have ac:=O;rw[e] at O;erw[O,t,us,rfl,Z,w1,r1,rfl,[rfl,_],h2]
 exists 0,t,_,_,0,1,SqT.of Z,qE (j:=0) rfl,1,0;by_cases c:kk="value"
 ·refine ld (A6 (by rw[c])) ?_
  erw[hx c,x,rfl,_];erw[h2,w2,r2,rfl,h3,h4]
  exists 0,t,_,_,0,1,SqT.of Z,qE (j:=1) rfl;refine k w2 H1 s1 ?_;rw[e];show Is H1 (if kk="value" then x else .non) w2
  rwa[A3 c]
 ·refine iL (ue (λz=>c (V.str.inj z))) ?_;refine k .non H1 s1 ?_;rw[e,Cv c];exact rfl
def Os:#[C,18,a.j8,a.jS,["project","ask","answer"],(Nl a.qJ)]:=by
 have jv:=#[DC,T,C];have qV:=#[jK,T];have yn:=#[oz,T];exists 9,T.lH,zm
 erw[h,px,t,av,kd,z,an,qs,rfl,ht,hP,U,ha,hT,af,k];erw[id hP,aa,ak,al,am,ac,_];exists 3,%[@qI _ _ _ _ _ _ _ _ #[Xp,#[qm,Qr,#[qF,qz,pv 1,qh],ql],#[jq,#[qm,Qr,#[qF,qz,pv 1,qh],ql]]].pt %[#[qI,#[qm,yI,pv 2,qT],%[|#[qp,#[Qg,yI,#[Qf,pv 0,T.Q3,T.ii,qV,#v[#[qF,qz,pv 1,qh]]],qT]]],qr]|#[qp,#[Qg,#[Mq,1,hr.units],#[qv,jv,T.lO,#v[pv 0,#[qF,qz,pv 1,qh]]],pv 2]]] qr|#[qp,#[Qg,#[Mq,1,hr.units],#[Qf,pv 0,T.Q3,T.iG,yn,#v[pv 1]],pv 2]]]
 exists 8,N1,q1
 exists 0,t,_,_,0,1,SqT.of ht,qE (j:=0) rfl,1,0;rcases hT with⟨O,rfl⟩|⟨O,ag,y,Z,rfl⟩
 ·erw[AaV U z O,k1,k2];have c1:kd≠"thing":=λz=>by rw[z] at O;exact A7 O ()
  have c2:kd≠"rule":=λz=>by rw[z] at O;exact A7 O ()
  refine iL (ue (λz=>c1 (V.str.inj z))) ?_
  exists 0,t,_,_,0,1,SqT.of ht,qE (j:=0) rfl,1,0;refine iL (ue (λz=>c2 (V.str.inj z))) (q1 _ _ ?_);by_cases c:kd="has"
  ·exists 0,px,aa,0,ac,Wl,0,px,t,kd,z,qs,1,hP,U,ht,af,.inl [c:?_];have iv:Is H (YX qs kd z) (.str (if z∈qs.map (·.1) then "yes" else "no")):=by
    unfold YX;rw[A3 c];exact Yb (by split<;>decide)
   exists 0,YX qs kd z,YX qs kd z,iv,ha,k1,k1,()
   rw[(Z6 (AbM k1)).mpr rfl];exact k H (ia.refl _)
  ·have c3:kd="names":=by
    unfold mM at O;rw[ue c] at O;exact uw (by simpa using O)
   exists 0,px,aa,0,ac,Wl,0,px,t,kd,z,qs,1,hP,U,ht,af,.inr [c3:λv7 H7 s7 i7=>?_];have iv:Is H7 (YX qs kd z) v7:=by
    unfold YX;rwa[A2 c]
   exists 0,YX qs kd z,YX qs kd z,iv,ha.mono s7.tk,k1,k1,()
   rw[(Z6 (AbM k1)).mpr rfl];exact k H7 s7
 have hm:∀v,y=u_ v->z∈qs.map (·.1):=λv hv=>by
  cases hg:g0D z (qH qs z) with
  |some s=>exact(Qs qs).gn z s hg
  |none=>
   rw[show FP qs z=_ from Sy.X9 (Qs qs) hg] at Z
   have Z:u_ (zr (qH qs z))=u_ y:=Z;apply pA;intro hc;rw[Y3 hc] at Z;cases Z;cases hv
 rcases ag with rfl|rfl;refine ld (A6 rfl) (lC ?_);rotate_left;refine iL (ue (λz=>A7 (V.str.inj z) ())) ?_
 exists 0,t,_,_,0,1,SqT.of ht,qE (j:=0) rfl,1,0;refine ld (A6 rfl) ?_;rotate_left
 all_goals
  exists 8,B1,b1
  exists 0,1,0;cases y with
  |none=>
   cases(show av= .non from ha)
   refine ld (A6 rfl) ?_
   exists 0,px,aa,0,ac,Ye,0,t,_,_,0,1,SqT.of ht,qE (j:=1) rfl,px,z,qs,1,hP,λw1 _ g2=>?_
   exists 1;rw[g2 ((L5 U Z).2 rfl).2,A6 rfl];exact k H (ia.refl _)
  |some v=>
   have hv:=AbK U Z;have ad:=yj hv;have ae:=Ew ad;have ao:=xr hv;have ah:v≠ .non:=λz=>by rw[z] at ad;cases ad
   refine iL (ue (YL ha ah)) (b1 _ _ ?_)
   exists 0,0,t,_,_,0,1,SqT.of ht,qE (j:=1) rfl,px,z,qs,1,U.1.1.1 z (hm v rfl),hP,U,λv1 H1 s1 i1=>?_;rw[(L5 U Z).1 v rfl] at i1;have i1:Is H1 v v1:=by
    have e:SA (.tup [.str "value",v])=v:=by
     show(if("value":Str)="value" then v else .non)=v
     exact A3 rfl
    rwa[e] at i1
   exists 0,v,v,i1,ha.mono s1.tk,ae,ae,()
   rw[(Z6 (AbM ae)).mpr rfl];exact k H1 s1
def DG:#[T,1,a.zh,a.zk,["source","asks"],CY]:=by
 exists 9,T.mi,Wq
 erw[h,sv,av,src,rl,pre,gs,rfl,U,hs,Z,k];have hz:=uI;exists 3,%[#[qI,#[qm,Qr,#[qF,qz,pv 0,qh],ql],%[|#[qp,#[qB,#v[#[qF,qz,pv 0,qh],pv 1]]]],qr]|#[qp,#[qB,#v[#[qF,qz,#[qF,qz,pv 1,qh],qh],#[Ys,wG,pv 1,#[YM,qh],JC]]]]]
 exists 8,N1,q1;rcases hs with⟨rfl,rfl⟩|⟨z,rfl,rfl⟩
 ·erw[U,t,us,rfl,ht,w1,r1,rfl,[rfl,_],w2,r2,rfl,i2,h0]
  exists 0,t,_,_,0,1,SqT.of ht,qE (j:=0) rfl,1,0,ld (A6 rfl) ?_
  exists 0,t,_,_,0,1,SqT.of ht,qE (j:=1) rfl,0,sml rfl,λt2 h2=>?_;exact k _ _ (qf h2 _) (Is.new (ds:= [rl,.tup gs]) ⟨_,0,i2,_,0,Z,1⟩ h2)
 ·erw[U,t,us,rfl,ht,w1,r1,rfl,[rfl,_],w2,r2,rfl,i2,h0]
  exists 0,t,_,_,0,1,SqT.of ht,qE (j:=0) rfl,1,0,iL (ue (λz=>A7 (V.str.inj z) ())) (q1 _ _ ?_)
  erw[id Z,ta,ua,rfl,aa,x1,rx,rfl,ac,O];erw[id ac,tb,ub,rfl,ad,y1,ry,rfl,ah,y2,ae,rfl,af,ag];cases(show ae= [] from ag)
  exists 0,ta,_,_,0,1,SqT.of aa,qE (j:=0) rfl,tb,_,_,0,1,SqT.of ad,qE (j:=1) rfl;have O:L2.IsL H gs rx:=O
  exists 0,0,ta,0,SqT.of aa,λhw=>?_,λ_ p hp=>[sml rfl:λt2 h2=>?_]
  ·exfalso;have h1:=hw.1;have h1:HT.sIx ↑(_::rx) 0 (u_ ((1:Nat):Int))=0:=h1;rw[HT.sIx_nat] at h1;rw[uu] at h1;omega
  ·have hc:ni (V.ref tb::rx) (u_ 1) U_=rx:=by
    rw[show(u_ (1:Int))=u_ ((1:Nat):Int) from rfl,JU (by rw[uu];omega)]
    rfl
   rw[hc] at h2⊢;have m1:=qf hp (.tup rx);have m2:=qf h2 (.tup [y2,.ref p]);exact k _ _ (m1.trans m2) (Is.new (ds:= [rl,.tup gs]) ⟨_,0,af.mono m1.tk,_,0,⟨p,0,qg,O.mono m1.tk⟩,1⟩ h2)
def Eb {K:o0}{b A:o3}{H1:Hp}{tg:TG}{tc:TT}{te:TE}{tl:L2.St}{Q:VK}{xs:oj V}(C:Nat->oj V->Hp->Prop)(hb:H1 b=u_ (.tup xs))(hn:↑xs<=V9)(h0:C 0 [] (upd H1 A (.lst [])))(hC:∀i ys H,C i ys H->ia H1 H)
  (aa:∀i x ys H O U,xs[i]? =u_ x->C i ys H->H A=u_ (.lst ys)->tg x (O::U::tl) H λσ2 H2=>tc σ2 H2 λc H3=>if c=v_ then te σ2 H3 λy H4=>H4 A=u_ (.lst ys)/\(∃u0 u1,σ2=u0::u1::tl)/\C (i+1) (ys++ [y]) (upd H4 A (.lst (ys++ [y]))) else H3 A=u_ (.lst ys)/\(∃u0 u1,σ2=u0::u1::tl)/\C (i+1) ys H3)
  (hQ:∀ys H,C ↑xs ys H->H A=u_ (.lst ys)->Q (.ref A) H):Ed A (Itt K b) tg tc te (U_::U_::tl) H1 Q:=by
 exists ↑xs,λi σ ys H=>(∃O U,σ=O::U::tl)/\C i ys H,hn,[[U_:U_:1]:h0],?_,?_
 ·rintro i σ ys H hi ⟨⟨O,U,rfl⟩,Z⟩ hl hy;have sm:=hC _ _ _ Z;have e0:xs[i]? =u_ xs[i]:=um hi;exists ⟨_,_,SqT.of (sm _ _ hb),e0⟩;rintro x H' ⟨rfl,hx⟩;have e:=hx _ (SqT.of (sm _ _ hb));exact aa i x ys H' O U e Z hl
 ·rintro σ ys H ⟨_,Z⟩ hl;exact[[_:SqT.of (hC _ _ _ Z _ _ hb):uq _]:hQ ys H Z hl]
def LX {p:Gp}(h:GI p):↑(QW p)<=400:=by
 have h1:=h.ra.2.2;unfold QW;rw[uB];cases O:p.run with
 |none=>show _+0<=400;omega
 |some q=>
  erw[q,rs,r];have h2:=(h.run rs r O).2.1;have h3:=h2.gs.2.2;have h4:=h2.n;show _+↑r.gs<=400;omega
inductive GoC (m:Str)(rl:D)(gs:List D)(en:D):Prop
 |lack (h0:YI rl=v_)(h1:gs= [])(h2:en=flt "lack"):GoC m rl gs en
 |bad (h0:YI rl=V6)(h1:QI rl=U_)(h2:gs= [])(h3:en=flt "rule"):GoC m rl gs en
 |run (rs:List Rw)(r:Rn)(h0:YI rl=V6)(h1:QI rl=u_ rs)(h2:gs=r.gs)(h3:Ch rs m (R0 rs m) (r.gs.map PJ) r)(h4:Ih rs r)(h6:ThS r.th)(h5:en=r.th∨∃z,en=Si z/\r.th=AbX z):GoC m rl gs en
inductive Aca (CP:Addr):Sp
 |mk (px:Addr)(rv:V)(m:Str)(qs:List (Str×D))(gp:Gp)(_:vs= [.ref px,.str m,rv])(_:nm m=v_)(_:yw CP H px qs)(_:Qi qs)(_:g0D m (qH qs m)=u_ gp)(_:Is H (JM (itP qs 302 gp)) rv)(_:∀H',ia H H'->Q (.bl v_) H')
def Acq:#[C,19,a.Jx,a.JI,["project","name","run"],(Aca a.qJ)]:=by
 have qV:=#[jK,T];have ZR:=#[Os,T,C];have jv:=#[DC,T,C];have Ke:=#[DG,T];have wk:=#[oA,T,C];have ac:=#[OB,T,C];exists 9,T.lV,Qc
 erw[h,px,rv,m,qs,gp,rfl,hn,hP,hq,hg,iv,k];have hs:=uI;have aJ:m∈qs.map (·.1):=(Qs qs).gn m gp hg;have hF:=MT hq hg 302;have aU:=Pu hq hg;erw[BA hq hg,ek,ex,ee,hE];have ba:=(JX hq hg 302).1;have bC:=yh hg;erw[AcF ba bC,nA,dA,nE,dE];have lA:=LX ba;rw[Bv,KJ] at iv;rw[KJ] at nA dA;rw[ee] at iv aU nE dE;generalize QW (itP qs 302 gp)=as at iv hF aU nA dA lA;erw[iv,q,us,rfl,bD,x1,r1,rfl,iA,x2,r2,rfl,iE,bE];cases(show r2= [] from bE)
 erw[id iA,ta,ua,rfl,aB,aV];erw[id iE,tE,uE,rfl,al,y1,cj,rfl,[rfl,ce],y2,bF,rfl,bb,bG];cases(show bF= [] from bG)
 have aq:↑ua=↑as:=↑aV;erw[id hP,bc,ck,cm,cn,bd,_];exists 3,%[#[qG,(3),Qc.nd,#[Qf,pv 0,T.Q3,T.ii,qV,#v[pv 1]]],#[kG,pv 2,#[wC,Qe #[qN,(4),Qc.nd] (Qe #[qN,(5),Qc.nd] YH)]],#[qI,#[Qv,#[Qh,#[qx,#[Jy,1,rfl],T.z_all,h_,#v[#[xN,["ask","answer","project"],(2),[0],Ea (qi Q2) ["project","name","run","source","asks","end","rule","rest","done","now","left"],#[Xo,pv 4],(λ_ _ _ _ _ _=>#[Ko,1,K,3,(2),1,rfl,rfl,Qe #[qN,(0),(show Vl (["ask","answer","project"]:oj Str) by decide+kernel)] (Qe #[qN,(1),(show Vl (["ask","answer","project"]:oj Str) by decide+kernel)] YH),_,_]),(λ_ _ _ _ _ _=>#[qv,ZR,T.lH,#v[pv 2,pv 0,pv 1]])]]]]],%[|#[qp,YV]],qr],@qI _ _ _ _ _ _ _ _ #[X1,#[qm,Qr,#[qF,qz,pv 5,qh],ql],@jP _ _ _ _ #[Xp,#[qm,yI,#[Qf,pv 0,T.Q3,T.ii,qV,#v[#[qF,qz,pv 5,qh]]],qT],#[jq,#[qm,Wb,#[qv,jv,T.lO,#v[pv 0,#[qF,qz,pv 5,qh]]],qT]]].pt].pt %[|#[qp,YV]] qr,@qI _ _ _ _ _ _ _ _ #[X1,#[qm,Qr,#[qF,qz,pv 3,qh],ql],#[jP,#[qm,#[J8,1,hr.units0],pv 4,#[qB,qd]]]].pt %[|#[qp,#[Qg,#[xm,1,hr.units],pv 5,#[qB,#v[ql,#[qF,qz,pv 3,qh]]]]]] qr,@qI _ _ _ _ _ _ _ _ #[X1,#[qm,Qr,#[qF,qz,pv 3,qh],ql],#[jP,#[qm,#[sM,1,hr.units],#[qF,qz,#[qF,qz,pv 4,qh],qh],#[qB,#v[ql,#[qF,qz,pv 3,qh]]]]]].pt %[|#[qp,YV]] qr,#[kG,#[qv,Ke,T.mi,#v[pv 3,pv 4]],#[wC,Qe #[qN,(6),Qc.nd] (Qe #[qN,(7),Qc.nd] YH)]],#[qI,#[qm,yI,pv 6,qT],%[|#[qp,#[Xs,#[Qg,#[xm,1,hr.units],pv 4,#[qY,wN,pv 7,#[Ys,wG,pv 4,JC,#[YM,qh]]]],#[Xs,#[Qg,#[J8,1,hr.units0],pv 7,#[qB,qd]],#[xn,#[Qg,#[xm,1,hr.units],pv 5,#[qB,#v[ql,ql]]]]]]]],qr],#[qI,#[Qv,#[Qh,#[qv,wk,T.mE,#v[pv 6]]]],%[|#[qp,#[Xs,#[Qg,#[J8,1,hr.units0],pv 7,#[qB,qd]],#[xn,#[Qg,#[xm,1,hr.units],pv 5,#[qB,#v[ql,ql]]]]]]],qr],#[kG,#[qv,ac,T.mP,#v[pv 6,pv 1,#[qW,qZ,T.QH,vn,#v[#[xN,["ask","answer"],(2),[],Ea (qi Q2) ["project","name","run","source","asks","end","rule","rest","done","now","left"],#[Xo,pv 7],(λ_ _ _ _ _ _=>#[Ko,1,K,3,(2),1,rfl,rfl,Qe #[qN,(0),(show Vl (["ask","answer"]:oj Str) by decide+kernel)] (Qe #[qN,(1),(show Vl (["ask","answer"]:oj Str) by decide+kernel)] YH),_,_]),(λ_ _ _ _ _ _=>(pv 1))]]]]],#[wC,Qe #[qN,(8),Qc.nd] (Qe #[qN,(9),Qc.nd] (Qe #[qN,(10),Qc.nd] YH))]],@qI _ _ _ _ _ _ _ _ #[Xp,#[qm,#[sM,1,hr.units],pv 8,pv 7],#[jq,#[qm,ou,pv 10,qh]]].pt %[|#[qp,YV]] qr,#[qI,#[qm,Qr,#[qF,qz,pv 5,qh],ql],%[|#[qp,#[Qg,#[xm,1,hr.units],pv 9,#[qB,#v[ql,#[qB,#v[ql,#[qF,qz,pv 5,qh]]]]]]]],qr]|#[qp,#[Qg,#[xm,1,hr.units],pv 9,pv 5]]]
 exists 8,N1,q1
 exists 0,px,bc,0,bd,Ye,0,px,m,qs,1,hP,λsv g1 _=>q1 _ _ ?_;have aW:=g1 aJ;exists 8,N2,q2
 exists 0,q,0,SqT.of bD,1
 exists _,0,_,0,1,q2 _ _ ?_;exists 8,N3,q3
 exists 0,ta,ua,1,SqT.of aB,λbH A0 be=>?_;refine Eb (tl:= [u_ (.ref px)]) (λi ys H'=>ys=(GN i v_).map V.bl/\ia H H') aB bH [1:qf be _] (λi ys H' h=>h.2) ?_ ?_
 ·rintro i x ys H' w0 w1 hx ⟨rfl,s'⟩ aC;have hi:i<↑as:=by rw[<-aq];exact(Ae.mp hx).1
  erw[aV.get (i:=i) (d:=as[i]) (um hi),x',au,ix];rw[hx] at au;cases au;erw[hF _ (uO hi),kd,z,an,e,am,aw];rw[e] at ix;erw[ix,t6,w6,rfl,aX,x7,r7,rfl,i7,x8,r8,rfl,i8,aY];cases(show r8= [] from aY)
  erw[i7,t7,w7,rfl,bI,x9,r9,rfl,[rfl,cp],xa,ra,rfl,[rfl,aK],bJ];cases(show ra= [] from bJ)
  exists t6,0,SqT.of (s' _ _ aX),1
  exists _,0,_,0,1
  try dsimp![YY,sA,Ge]
  rw[A3 rfl]
  exists 0,0,0,px,t7,x8,kd,z,an,qs,1,s' _ _ bI,hP.same s',hq,i8.mono s'.tk,aw,am,λH3 s3=>?_
  exists 5
  refine⟨s3 _ _ aC,[_:0],?_,λb o e=>by rw[qj (qk e be)];exact s3 _ _ (s' _ _ e)⟩
  rw[List.replicate_succ',uD]
  rfl
 rintro ys H1 ⟨rfl,s1⟩ bK
 exists A0,0,SqL.of bK;rw[show(GN ↑ua v_).all id=v_ by simp]
 exists 0,iP (q3 _ _ ?_);exists 8,N4,q4;have bf:=hP.same s1;have aZ:∀H2,ia H H2->N4 [u_ (.ref px),u_ (.str m),u_ (.ref q),u_ sv,u_ (.ref ta),u_ (.ref tE),U_,U_,U_,U_,U_] H2:=by
  intro H2 s2;refine q4 _ _ ?_;have ah:=aW.mono s2.tk;have bL:=iE.mono s2.tk;have cf:=s2 _ _ al;have aL:=s2 _ _ aB;have aM:=aV.mono s2.tk;have cq:=iA.mono s2.tk;exists 8,N5,q5;have aN:∀(pre gs:oj D) (rl:D),Hs (qH qs m) pre rl->as=pre++gs->GoC m rl gs (.tup [.str ek,ex])->∀H3,ia H H3->N5 [u_ (.ref px),u_ (.str m),u_ (.ref q),u_ sv,u_ (.ref ta),u_ (.ref tE),U_,U_,U_,U_,U_] H3:=by
   intro pre gs rl ag has aD H3 s3;refine q5 _ _ ?_;exists 8,N6,q6;have k6:∀H4,ia H H4->N6 [u_ (.ref px),u_ (.str m),u_ (.ref q),u_ sv,u_ (.ref ta),u_ (.ref tE),U_,U_,U_,U_,U_] H4:=by
    intro H4 s4;refine q6 _ _ ?_;exists 8,N7,q7;have bg:=iA.mono s4.tk;rw[has] at bg
    exists 0,0,sv,.ref ta,qH qs m,rl,pre,gs,1,aW.mono s4.tk,ag,bg,λu H5 s5 i5=>?_;erw[i5,t5,u5,rfl,bM,rv,r5,rfl,ao,x6,r6,rfl,ig,bN];cases(show r6= [] from bN)
    exists t5,0,SqT.of bM,1
    exists _,0,_,0,1,q7 _ _ ?_;erw[id ig,tg,ug,rfl,aE,aF];have S5:=s4.trans s5;have bh:=iE.mono S5.tk;have cg:=S5 _ _ al;exists 8,N8,q8
    exists 0,1,0;have ap:nL [.str ek,ex]=true:=nE;have bO:1+dpL [.str ek,ex]<=20:=dE;cases aD with
    |lack h0 h1 h2=>
     cases rl with
     |non=>
      cases(show rv= .non from ao)
      refine ld (A6 rfl) ?_;cases h1;rcases ag with⟨e0,_⟩|⟨z,_,ad⟩
      ·exfalso;erw[jU hq aJ,_,k0,e1,bo,_,bP];rw[e0] at bo;cases bo;exact A7 (bP ()).2 ()
      rw[vg] at has;have bp:↑ua=1:=by rw[aq,has,ad];rfl
      have ax:ug= []:=aF;subst ax;have hw:HT.sIx ↑ua 0 U_=0/\HT.sIx ↑ua ↑ua (u_ 1)=↑ua:=by
       rw[bp];exact[1:1]
      have aO:=S5 _ _ aB
      exists 0,0,0
      try unfold sC
      exists 0,ta,ua,1,SqT.of aO,λ_=>?_,λc=>A7 hw c
      exists tg,ta,_,ua,1,1,SqT.of aE,SqT.of aO,(by rw[bp];show 0+1<=V9;omega),λ_=>?_,λc=>A7 rfl c,λc=>A7 rfl c
      have a1:nL as=true:=nA
      exists as,as,iA.mono S5.tk,iA.mono S5.tk,a1,a1,(by have:1+dpL as<=31:=dA;omega)
      rw[(eqNL_iff a1).mpr rfl]
      exists v_,1;rw[A3 rfl]
      exists 0,uP _,λt0 O=>⟨tg,t0,0,1,SqT.of (qf O _ _ _ aE),SqT.of qg,?_⟩
      exists 0;rw[show([]:oj V).isEmpty=v_ from rfl,A3 rfl]
      have m0:=qf O (.tup ([]:oj V))
      exists 0,sml rfl,λt3 ay=>?_;have m3:=qf ay (.tup [V.str "fault",V.str "lack"]);have aa: [D.str ek,ex]= [.str "fault",.str "lack"]:=by injection h2
      exists [.str ek,ex],[.str "fault",.str "lack"],(bh.mono m0.tk).mono m3.tk,Is.new (ds:= [.str "fault",.str "lack"]) ⟨_,0,Yb (),_,0,Yb (),1⟩ ay,ap,1,()
      rw[aa,(eqNL_iff (show nL [.str "fault",.str "lack"]=v_ from rfl)).mpr rfl]
      exact k _ ((S5.trans m0).trans m3)
     |_=>cases h0
    |bad h0 h1 h2 h3=>
     have aA:rl≠ .non:=λz=>by rw[z] at h0;cases h0
     refine iL (ue (YL ao aA)) (q8 _ _ ?_);exists 8,N9,q9
     exists 0,rv,rl,1,ao,λH6 s6=>?_;rw[h1]
     exists 0,lC ?_;cases h2;have ax:ug= []:=aF;subst ax;have S6:=S5.trans s6
     exists 0,uP _,λt0 O=>⟨tg,t0,0,1,SqT.of (qf O _ _ _ (s6 _ _ aE)),SqT.of qg,?_⟩
     exists 0;rw[show([]:oj V).isEmpty=v_ from rfl,A3 rfl]
     have m0:=qf O (.tup ([]:oj V))
     exists 0,sml rfl,λt3 ay=>?_;have m3:=qf ay (.tup [V.str "fault",V.str "rule"]);have aa: [D.str ek,ex]= [.str "fault",.str "rule"]:=by injection h3
     exists [.str ek,ex],[.str "fault",.str "rule"],((bh.mono s6.tk).mono m0.tk).mono m3.tk,Is.new (ds:= [.str "fault",.str "rule"]) ⟨_,0,Yb (),_,0,Yb (),1⟩ ay,ap,1,()
     rw[aa,(eqNL_iff (show nL [.str "fault",.str "rule"]=v_ from rfl)).mpr rfl]
     exact k _ ((S6.trans m0).trans m3)
    |run rs r h0 h1 h2 h3 h4 bQ h5=>
     subst h2;have aA:rl≠ .non:=λz=>by rw[z] at h0;cases h0
     refine iL (ue (YL ao aA)) (q8 _ _ ?_);exists 8,N9,q9
     exists 0,rv,rl,1,ao,λH6 s6=>?_;rw[h1]
     exists 0,iP (q9 _ _ ?_);have S6:=S5.trans s6;exists 8,cr,bR;erw[X4 h1,bS,hR];have lg:↑r.gs<=400:=by
      rw[has,uB] at lA;omega
     have bq:↑ug=↑r.gs:=↑aF;have aP:=s6 _ _ aE;have bt:=aF.mono s6.tk;have bT:∀x∈r.gs,Sf qs x:=λx hx=>hF x (by rw[has];exact uQ _ hx)
     exists 0,0,0,tg,ug,1,SqT.of aP,λbu A1 aQ=>?_;refine Eb (tl:= []) (λi ys H'=>L2.IsL H' ((r.gs.take i).map PJ) ys/\ia H6 H') aP bu [1:qf aQ _] (λi ys H' h=>h.2) ?_ ?_
     ·rintro i x ys H' w0 w1 hx ⟨aG,s'⟩ aC;have hi:i<↑r.gs:=by rw[<-bq];exact(Ae.mp hx).1
      erw[bt.get (i:=i) (d:=r.gs[i]) (um hi),x',au,ix];rw[hx] at au;cases au;erw[bT _ (uO hi),kd,z,an,e,am,aw];rw[e] at ix;erw[ix,t6,w6,rfl,aX,x7,r7,rfl,i7,x8,r8,rfl,i8,aY];cases(show r8= [] from aY)
      exists t6,0,SqT.of (s' _ _ aX),1
      exists _,0,_,0,1
      try dsimp![YY,sA,Ge]
      rw[A3 rfl];have tk:Tk H' (upd H' A1 (.lst (ys++ [x8]))):=Tk.updL aC
      exists 5
      refine⟨0,aC,[_:0],?_,λb o e=>by rw[qj (qk e aQ)];exact s' _ _ e⟩
      rw[vx,um hi,uD];refine(aG.mono tk).append (L2.IsL.one ?_);rw[e];exact(i8.mono s'.tk).mono tk
     rintro ys H7 ⟨aG,s7⟩ bU;rw[bq,Uc] at aG
     exists A1,0,.inl [SqL.of bU:λtt bV=>?_];have m8:=qf bV (.tup ys);have S8:=(S6.trans s7).trans m8;have aR:=(ao.mono s6.tk).mono (s7.trans m8).tk;rw[bS] at aR
     exists rv,tt,m,ys,rs,r.gs.map PJ,r,1,aR,hR,hn,qg,aG.mono m8.tk,(by rwa[ud]),h3,λu H9 s9 i9=>?_
     erw[i9,t9,u9,rfl,bW,d1,cs,rfl,bX,d2,cu,rfl,a2,d3,bY,rfl,bZ,b3];cases(show bY= [] from b3)
     cases(show d3= .int 0 from bZ)
     exists t9,0,SqT.of bW,1
     exists _,0,_,0,_,0,1,bR _ _ ?_;have S9:=S8.trans s9;have b4:=((ig.mono s6.tk).mono (s7.trans m8).tk).mono s9.tk;have b5:=iE.mono S9.tk;have aS:=S9 _ _ al;erw[h4.two,tw,te,a3];have a4:=h4.gd;rw[a3] at a4 a2;have ae:=kK a4.1;simp![nD] at ae;have aT:dpL [.str tw,te]<=60:=by
      have:=a4.2;simp![dp] at this;omega
     exists 8,cv,b6
     exists 0,0,r.gs,r.gs,bX,b4,h4.gs.1,h4.gs.1,(by have:=h4.gs.2.1;omega)
     rw[(eqNL_iff h4.gs.1).mpr rfl]
     exists 0,iP ?_
     exists 0,1,0,iL rfl (b6 _ _ ?_);exists 8,cw,b7
     exists 0,tE,_,_,0,1,SqT.of aS,qE (j:=0) rfl,1,0;rcases h5 with h5|⟨z,h5,h6⟩
     ·have b8:ek≠"stuck":=λz=>by
       rcases hE with⟨e0,_⟩|⟨e0,_⟩|⟨y,_,_,_,e0,_⟩
       ·rw[z] at e0;exact A7 e0 ()
       ·rw[z] at e0;exact A7 e0 ()
       ·rw[z,e0] at h5;exact AA bQ h5.symm
      refine iL (ue (λz=>b8 (V.str.inj z))) (b7 _ _ ?_);have aa: [D.str tw,te]= [.str ek,ex]:=by
       rw[a3] at h5;injection h5 with h5
       exact h5.symm
      exists 0,0,[.str tw,te],[.str ek,ex],a2,b5,ae,ap,aT;rw[aa,(eqNL_iff ap).mpr rfl];exact k _ S9
     ·have b9:ek="stuck"/\ex= .str z:=by
       have:D.tup [.str ek,ex]= .tup [.str "stuck",.str z]:=h5;injection this with this
       injection this with e1 e2
       injection e1 with e1
       injection e2 with e2 _
       exact[e1:e2]
      erw[b9,rfl,rfl];refine ld (A6 rfl) ?_;erw[id bb,a5,aK];have a5:y2= .str z:=a5;subst a5
      exists 0,0,tE,_,_,0,1,SqT.of aS,qE (j:=1) rfl,sml rfl,λti bv=>[sml rfl:λtj af=>?_];have n1:=qf bv (.tup [V.str "thing",V.str z]);have n2:=qf af (.tup [V.str "asks",V.ref ti]);have i1:Is (upd H9 ti (.tup [V.str "thing",V.str z])) (.tup [.str "thing",.str z]) (.ref ti):=Is.new (ds:= [.str "thing",.str z]) ⟨_,0,Yb (),_,0,[1:aK],1⟩ bv
      have i2:=Is.new (ds:= [.str "asks",.tup [.str "thing",.str z]]) ⟨_,0,Yb (),_,0,i1,1⟩ af
      have aa: [D.str tw,te]= [.str "asks",.tup [.str "thing",.str z]]:=by
       rw[a3] at h6;have h6:D.tup [.str tw,te]= .tup [.str "asks",.tup [.str "thing",.str z]]:=h6;injection h6
      exists [.str tw,te],[.str "asks",.tup [.str "thing",.str z]],(a2.mono n1.tk).mono n2.tk,i2,ae,(by rwa[<-aa]),aT
      rw[<-aa,(eqNL_iff ae).mpr rfl];exact k _ ((S9.trans n1).trans n2)
   have ak:=aW.mono s3.tk;rcases id ag with⟨e0,_⟩|⟨z,e0,ad⟩
   ·rw[e0] at ak;erw[ak,ts,aH,rfl,U,w1,aI,rfl,[rfl,_],_];exact⟨0,ts,_,_,0,1,SqT.of U,qE (j:=0) rfl,1,0,iL (ue (λy=>A7 (V.str.inj y) ())) (k6 H3 s3)⟩
   ·rw[e0] at ak;erw[ak,ts,aH,rfl,U,w1,aI,rfl,[rfl,_],w2,a6,rfl,[rfl,am],a7];cases(show a6= [] from a7)
    exists 0,ts,_,_,0,1,SqT.of U,qE (j:=0) rfl,1,0,ld (A6 rfl) ?_;have bw:=iA.mono s3.tk;rw[has,ad] at bw;erw[bw,tA,uA,eA,ca,x7,r7,rfl,cb,_];cases eA;erw[cb,t8,u8,rfl,cc,x9,r9,rfl,bx,_];erw[id bx,cx,cy,rfl,ch,ci]
    exists 0,ta,_,_,0,1,SqT.of ca,qE (j:=0) rfl,t8,_,_,0,1,SqT.of cc,qE (j:=0) rfl
    exists 0,ts,_,_,0,1,SqT.of U,qE (j:=1) rfl,sml rfl,λtj af=>?_;have n2:=qf af (.tup [V.str "rule",V.str z]);have i2:=Is.new (ds:= [.str "rule",.str z]) ⟨_,0,Yb (),_,0,[1:am],1⟩ af
    exists [.str "rule",.str z],[.str "rule",.str z],bx.mono n2.tk,i2,1,1,(by simp[dpL,dp])
    rw[(eqNL_iff (show nL [.str "rule",.str z]=v_ from rfl)).mpr rfl]
    exact[0:iL rfl (k6 _ (s3.trans n2))]
  have two:(∃z:Str,qH qs m= .tup [.str "made",.str z]/\as= []/\D.tup [.str ek,ex]=Si z)∨∃pre gs rl,Hs (qH qs m) pre rl/\as=pre++gs/\GoC m rl gs (.tup [.str ek,ex]):=by
   cases aU with
   |wait z h0 h1 h2=>exact .inl ⟨z,h0,h1,h2⟩
   |lack pre rl h0 h1 h3 h4=>exact .inr ⟨pre,[],rl,h0,by rw[h1,vg],.lack h3 rfl h4⟩
   |bad pre rl h0 h1 h3 h5 h4=>exact .inr ⟨pre,[],rl,h0,by rw[h1,vg],.bad h3 h5 rfl h4⟩
   |run pre rl rs r h0 h1 h3 h5 h6 h7 h8 h4=>exact .inr ⟨pre,r.gs,rl,h0,h1,.run rs r h3 h5 rfl h6 h7 h8 h4⟩
  rcases two with⟨z,h0,h1,h2⟩|⟨pre,gs,rl,ag,has,aD⟩
  ·rw[h0] at ah;erw[ah,ts,aH,rfl,U,w1,aI,rfl,[rfl,_],w2,a6,rfl,[rfl,am],a7];cases(show a6= [] from a7)
   exists 0,ts,_,_,0,1,SqT.of U,qE (j:=0) rfl,1,0,ld (A6 rfl) ?_;rw[h1] at aM;have bA:ua= []:=aM;subst bA
   exists 0,uP _,λt0 O=>⟨ta,t0,0,1,SqT.of (qf O _ _ _ aL),SqT.of qg,?_⟩;have m0:=qf O (.tup ([]:oj V))
   exists 0,ld rfl ?_
   exists 0,0,ts,_,_,0,1,SqT.of (m0 _ _ U),qE (j:=1) rfl,sml rfl,λtj af=>?_;have n2:=qf af (.tup [V.str "stuck",V.str z]);have i2:=Is.new (ds:= [.str "stuck",.str z]) ⟨_,0,Yb (),_,0,[1:am],1⟩ af
   have ap:nL [.str ek,ex]=true:=nE;have bO:1+dpL [.str ek,ex]<=20:=dE;have aa: [D.str ek,ex]= [.str "stuck",.str z]:=by
    have h2:D.tup [.str ek,ex]= .tup [.str "stuck",.str z]:=h2;injection h2
   exists [.str ek,ex],[.str "stuck",.str z],(bL.mono m0.tk).mono n2.tk,i2,ap,1,()
   rw[aa,(eqNL_iff (show nL [.str "stuck",.str z]=v_ from rfl)).mpr rfl]
   exact k _ ((s2.trans m0).trans n2)
  ·rcases id ag with⟨e0,_⟩|⟨z,e0,ad⟩
   ·have Z:=ah;rw[e0] at Z;erw[Z,ts,aH,a8,U,w1,aI,rfl,[rfl,_],_];exact⟨0,ts,_,_,_,a8,1,SqT.of U,qE (j:=0) rfl,1,0,iL (ue (λy=>A7 (V.str.inj y) ())) (aN pre gs rl ag has aD H2 s2)⟩
   ·have Z:=ah;rw[e0] at Z;erw[Z,ts,aH,a8,U,w1,aI,rfl,[rfl,_],_]
    exists 0,ts,_,_,_,a8,1,SqT.of U,qE (j:=0) rfl,1,0,ld (A6 rfl) ?_
    exists 0,uP _,λt0 O=>⟨ta,t0,0,1,SqT.of (qf O _ _ _ aL),SqT.of qg,?_⟩;have aA:ua.isEmpty=false:=by
     cases hu:ua with
     |nil=>
      rw[hu] at aq;rw[has,ad] at aq;simp at aq
     |cons _ _=>rfl
    rw[aA];exact[0:iL rfl (aN pre gs rl ag has aD _ (s2.trans (qf O _)))]
 exists 0,tE,_,_,0,1,SqT.of (s1 _ _ al),qE (j:=0) rfl,1,0;rcases hE with⟨rfl,_⟩|⟨rfl,_⟩|⟨z,s',rfl,_,rfl,_,hz,hv⟩
 ·exact iL (ue (λy=>A7 (V.str.inj y) ())) (aZ H1 s1)
 ·exact iL (ue (λy=>A7 (V.str.inj y) ())) (aZ H1 s1)
 refine ld (A6 rfl) ?_;cases(show y2= .str z from bb.1)
 have a9:z∈qs.map (·.1):=(Qs qs).gn z s' hz;erw[jU hq a9,_,kz,ez,cd,_]
 exists 0,px,bc,0,s1 _ _ bd,Ye,0,tE,_,_,0,1,SqT.of (s1 _ _ al),qE (j:=1) rfl,px,z,qs,1,bf,λw1 g1 _=>?_;have bB:=g1 a9;rw[cd] at bB
 exists 1,0,iL (ue (YL bB (λy=>by cases y))) ?_
 exists 0,0,tE,_,_,0,1,SqT.of (s1 _ _ al),qE (j:=1) rfl,px,z,qs,1,hq.1.1.1 z a9,bf,hq,λv1 H2 s2 i2=>?_;have e0:SA (iH qs z)= .non:=by
  erw[Cu hq z,kk,r,e,_];rw[e] at hv⊢;refine Cv λy=>?_;rw[y] at hv;have hv:(decide (("value":Str)="value")||decide (("value":Str)="lack"))=false:=hv
  rw[A6 rfl] at hv;cases hv
 rw[e0] at i2;cases(show v1= .non from i2)
 exact[1:0:iL rfl (aZ H2 (s1.trans s2))]
nonrec def Sn (F:Str->D):Str->oj Str->Prop
 |_,[]=>True
 |a,x::t=>nC (F a)=u_ x/\Sn F x t
nonrec def Mz:Str->oj Str->Str
 |a,[]=>a
 |_,x::t=>Mz x t
variable {x:Str}
def CI {d:D}(h:nC d=u_ x):d= .tup [.str "stuck",.str x]:=by
 cases d with
 |tup l=>
  match l,h with
  | [.str k,.str y],h=>
   have h:(if k="stuck" then u_ y else U_)=u_ x:=h
   by_cases c:k="stuck"
   ·rw[A3 c] at h;cases h;rw[c]
   ·rw[A2 c] at h;cases h
 |_=>cases h
def ST (O:Qi qs){a:Str}{s:Gp}(U:g0D a (qH qs a)=u_ s)(h:nC (iH qs a)=u_ x):∃s',g0D x (qH qs x)=u_ s'/\vlO (iH qs x)=false:=by
 erw[BA O U,k,d,_,Z];rcases Z with⟨_,h1⟩|⟨_,_,h1⟩|⟨z,s',_,_,_,h1,h2,h3⟩
 ·rw[CI h] at h1;exact A7 h1 (by unfold vlO;dsimp only;decide+kernel)
 ·rw[h] at h1;cases h1
 ·rw[h] at h1;cases h1;exact[s':h2:h3]
def Abl {qs:oj (Str×D)}(hq:Qi qs):∀(k:Nat) (pre:oj Str) (a:Str) (s:Gp),g0D a (qH qs a)=u_ s->vlO (iH qs a)=V6->(pre++ [a]).Nodup->(∀x∈pre,x∈qs.map (·.1))->61<=k+↑pre->
  ∃t,(pre++a::t).Nodup/\(∀x∈a::t,x∈qs.map (·.1))/\Sn (iH qs) a t/\((∃z,iH qs (Mz a t)=flt z/\chG (iH qs) k (pre++ [a]) (iH qs a)= .tup [.tup ((pre++a::t).map D.str),.tup []])∨∃b,nC (iH qs (Mz a t))=u_ b/\b∈pre++a::t/\chG (iH qs) k (pre++ [a]) (iH qs a)=chR (pre++a::t) b)
 |0,pre,a,s,hg,Z,hn,hin,hk=>by
  have:=Kl hn (m:=qs.map (·.1)) λx O=>by
   rcases Ab.mp O with O|O
   ·exact hin x O
   ·cases Aa.mp O;exact(Qs qs).gn a s hg
  rw[uB,ud] at this;have:=hq.2.2;omega
 |k+1,pre,a,s,hg,Z,hn,hin,hk=>by
  have ha:=(Qs qs).gn a s hg;have one:∀x∈ [a],x∈qs.map (·.1):=λx O=>by cases Aa.mp O;exact ha
  unfold chG;cases O:nC (iH qs a) with
  |none=>
   exists [],hn,one,trivial,.inl ?_;have hf:=yh hg;cases he:(itP qs 302 s).en with
   |none=>rw[he] at hf;cases hf
   |some e=>
    have hA:=J6 hg he;rcases(JX hq hg 302).1.en e he with⟨z,rfl⟩|⟨v,rfl,_⟩|⟨z,rfl⟩
    ·have e2:qU (flt z)=flt z:=by unfold qU flt;dsimp only;exact A2 ()
     exact[z:hA.trans e2:1]
    ·have e2:qU (.tup [.str "said",v])= .tup [.str "value",v]:=by unfold qU;dsimp only;exact A3 rfl
     rw[hA,e2] at Z;have Z:(decide (("value":Str)="value")||decide (("value":Str)="lack"))=false:=Z
     rw[A6 rfl] at Z;cases Z
    ·have e2:qU (.tup [.str "stuck",.str z])= .tup [.str "stuck",.str z]:=by unfold qU;dsimp only;exact A2 ()
     rw[hA,e2] at O;have O:(if("stuck":Str)="stuck" then u_ z else U_)=none:=O
     rw[A3 rfl] at O;cases O
  |some x=>
   try dsimp only
   by_cases c:x∈pre++ [a]
   ·rw[A3 c];exact⟨[],hn,one,trivial,.inr ⟨x,O,c,1⟩⟩
   ·rw[A2 c];erw[ST hq hg O,s',aa,ac];obtain⟨t,h1,h2,hw,h3⟩:=Abl hq k (pre++ [a]) x s' aa ac ((Tf (l₁:= [x]) (l₂:=pre++ [a])).nodup_iff.mp (List.nodup_cons.mpr [c:hn])) (λy U=>by
     rcases Ab.mp U with U|U
     ·exact hin y U
     ·exact one y U) (by rw[uB,v9];omega)
    have e:(pre++ [a])++x::t=pre++a::x::t:=by simp
    rw[e] at h1 h3;exists x::t,h1,λy U=>?_,[O:hw],h3;rcases A9.mp U with rfl|U
    ·exact ha
    ·exact h2 y U
def Sn.at {F:Str->D}:∀{t:oj Str}{a:Str} (i:Nat) {x y:Str},Sn F a t->(a::t)[i]? =u_ x->(a::t)[i+1]? =u_ y->nC (F x)=u_ y
 |x::t,a,0,_,_,h,h1,h2=>by
  cases h1;cases h2;exact h.1
 |x::t,a,i+1,_,_,h,h1,h2=>Sn.at i h.2 h1 h2
 | [],a,i,_,_,_,_,h2=>by simp at h2
def D7:∀(a:Str) (t:oj Str),(a::t).getLast? =u_ (Mz a t)
 |a,[]=>rfl
 |a,x::t=>by
  rw[U8];exact D7 x t
def Sw (O:Qi qs){n:Str}(h:vlO (iH qs n)=v_):(∃v,iH qs n= .tup [.str "value",v]/\isT v=v_)∨iH qs n= .tup [.str "lack"]:=by
 erw[Cu O n,k,r,e,_,hx];by_cases c:k="value"
 ·erw[hx c,x,rfl,hF];exact .inl ⟨x,by rw[e,c],AbK O hF⟩
 ·right;cases U:g0D n (qH qs n) with
  |none=>
   have hF:FP qs n=_:=Sy.X9 (Qs qs) U;have h2:=L5 O hF;cases hy:zr (qH qs n) with
   |none=>exact(h2.2 hy).1
   |some v=>
    have:=h2.1 v hy;rw[e] at this;injection this with this
    injection this with this _
    injection this with this
    exact A7 this c
  |some s=>
   erw[BA O U,k',x,_,hE];rcases hE with⟨_,h1⟩|⟨_,h1,_⟩|⟨_,_,_,h1,_⟩
   ·have hf:=yh U;cases he:(itP qs 302 s).en with
    |none=>rw[he] at hf;cases hf
    |some e'=>
     have hA:=J6 U he;rcases(JX O U 302).1.en e' he with⟨z,rfl⟩|⟨v,rfl,_⟩|⟨z,rfl⟩
     ·have Z:qU (flt z)=flt z:=by unfold qU flt;dsimp only;exact A2 ()
      rw[hA,Z] at h;exact A7 h (by unfold flt vlO;dsimp only;decide+kernel)
     ·have Z:qU (.tup [.str "said",v])= .tup [.str "value",v]:=by unfold qU;dsimp only;exact A3 rfl
      rw[hA,Z] at e;injection e with e
      injection e with e _
      injection e with e
      exact A7 e.symm c
     ·have Z:qU (.tup [.str "stuck",.str z])= .tup [.str "stuck",.str z]:=by unfold qU;dsimp only;exact A2 ()
      rw[hA,Z] at h;exact A7 h (by unfold vlO;dsimp only;decide+kernel)
   ·rw[h1] at h;cases h
   ·rw[h1] at h;cases h
def DX:∀zs:oj Str,nL (zs.map D.str)=v_/\dpL (zs.map D.str)<=1
 | []=>⟨1,by simp[dpL]⟩
 |z::r=>by
  erw[DX r,h1,h2];exact⟨by simp![uC,nL,nD,h1,Rb],by simp![uC,dpL,dp];omega⟩
def zW {H:Hp}:∀{zs:oj Str}{vs:oj V},L2.IsL H (zs.map D.str) vs->vs=zs.map V.str
 | [],_,h=>h
 |z::r,_,h=>by
  erw[h,v,us,rfl,[rfl,_],h2];rw[zW h2]
  rfl
inductive Acb (CP:Addr):Sp
 |mk (px:Addr)(n:Str)(qs:List (Str×D))(_:vs= [.ref px,.str n])(_:nm n=v_)(_:yw CP H px qs)(_:Qi qs)(_:∀H',ia H H'->Q (.bl v_) H')
def Acr:#[C,18,a.jr,a.jl,["project","name"],(Acb a.qJ)]:=by
 have U:=#[Lo,T,C];have Yy:=#[Ba,T,C];have jv:=#[DC,T,C];exists 9,T.lm,QG
 erw[h,px,n,qs,rfl,hn,hP,hq,k];have hs:=uI;exists 3,%[#[kG,#[qv,U,T.mT,#v[pv 0,pv 1]],#[wC,Qe #[qN,(2),QG.nd] (Qe #[qN,(3),QG.nd] YH)]],#[qI,#[qm,#[J8,1,hr.units0],pv 2,#[qB,qd]],%[|#[qp,#[Xs,#[Qg,#[J8,1,hr.units0],pv 3,#[qB,qd]],#[xn,#[Aav,7,#[Qg,Wb,#[qv,jv,T.lO,#v[pv 0,pv 1]],qT],#[xn,#[Qg,#[xm,1,hr.units],#[qv,Yy,T.iO,#v[pv 0,pv 1]],#[qB,#v[ql]]]]]]]]],qr],@qI _ _ _ _ _ _ _ _ #[Xp,#[qm,ou,#[qF,qz,pv 2,qh],pv 1],#[jq,#[qm,ou,#[qx,oZ,T.Q0,uL,#v[#[qW,#[oX,1,rfl],T.z_set,L2.BJ,#v[pv 2]]]],#[qx,qD,T.Q0,uL,#v[pv 2]]]]].pt %[|#[qp,YV]] qr,#[Je,#[YW,#v[#[qY,WW,#[qx,qD,T.Q0,uL,#v[pv 2]],qh]]],#[qN,(4),QG.nd],%[|#[qI,#[qm,#[sM,1,hr.units],#[qv,Yy,T.iO,#v[pv 0,#[qF,qz,pv 2,pv 4]]],#[qB,#v[ql,#[qF,qz,pv 2,#[qY,yi,pv 4,qh]]]]],%[|#[qp,YV]],qr]]],#[qG,(5),QG.nd,#[qv,Yy,T.iO,#v[pv 0,#[qF,qz,pv 2,#[KZ,6,Ax,qh]]]]],#[qI,#[qm,#[J8,1,hr.units0],pv 3,#[qB,qd]],%[|#[qp,#[Qg,Qr,#[qF,qz,pv 5,qh],ql]]],qr]|#[qp,#[Xs,#[Qg,#[xm,1,hr.units],pv 5,#[qB,#v[ql,#[qF,qz,pv 3,qh]]]],#[xn,#[Qg,#[xm,1,hr.units],#[Ys,wG,pv 2,#[YM,#[qY,WW,#[qx,qD,T.Q0,uL,#v[pv 2]],#[qx,qD,T.Q0,uL,#v[pv 3]]]],JC],pv 3]]]]]
 exists 8,N1,q1
 exists 0,0,px,n,qs,1,hn,hP,hq,λv H1 s1 i1=>?_;have aU:=hP.same s1;cases hv:vlO (iH qs n) with
 |true=>
  have e0:chD qs n= .tup [.tup [],.tup []]:=by unfold chD;rw[hv];exact A3 rfl
  rw[e0] at i1;erw[i1,t,us,rfl,ht,x1,r1,rfl,[ta,ua,rfl,O,am],x2,r2,rfl,[tb,ub,rfl,ac,ah],ao];cases(show r2= [] from ao)
  cases(show ua= [] from am)
  cases(show ub= [] from ah)
  exists t,0,SqT.of ht,1
  exists _,0,_,0,1,q1 _ _ ?_;exists 8,N2,q2
  exists 0,uP _,λt0 ad=>⟨ta,t0,0,1,SqT.of (qf ad _ _ _ O),SqT.of qg,?_⟩;have m0:=qf ad (.tup ([]:oj V))
  exists 0,ld rfl ?_
  exists 0,uP _,λt1 ay=>⟨tb,t1,0,1,SqT.of (qf ay _ _ _ (m0 _ _ ac)),SqT.of qg,?_⟩;have m1:=qf ay (.tup ([]:oj V))
  exists v_,1;rw[A3 rfl];have s2:=(s1.trans m0).trans m1
  exists 0,0,px,n,qs,1,hn,hP.same s2,hq,λv2 H3 s3 Z=>[1:?_];rcases Sw hq hv with⟨x,ex,hx⟩|ex
  ·rw[ex] at Z;have Z:Is H3 x v2:=by
    have e:SA (.tup [.str "value",x])=x:=by
     show(if("value":Str)="value" then x else .non)=x
     exact A3 rfl
    rwa[e] at Z
   have aJ:x≠ .non:=λz=>by rw[z] at hx;exact A7 hx ()
   have hd:decide (v2=V.non)=false:=ue (YL Z aJ)
   exists 5
   refine⟨v_,by rw[hd];rfl,?_⟩
   rw[A3 rfl];exact k _ (s2.trans s3)
  ·rw[ex] at Z;cases(show v2= .non from Z)
   exists V6,1;rw[A2 uc];have aA:=s2.trans s3
   exists 0,0,px,n,qs,1,hn,hP.same aA,hq,λv4 H4 s4 i4 _=>?_
   exists sml rfl,λt5 ae=>?_;have m5:=qf ae (.tup [V.str "lack"]);rw[ex] at i4
   exists [.str "lack"],[.str "lack"],i4.mono m5.tk,Is.new (ds:= [.str "lack"]) ⟨_,0,Yb (),1⟩ ae,1,1,(by simp[dpL,dp])
   rw[(eqNL_iff (show nL [.str "lack"]=v_ from rfl)).mpr rfl]
   exact k _ ((aA.trans s4).trans m5)
 |false=>
  erw[Sx hq hv,s0,hg];have e0:chD qs n=chG (iH qs) 62 [n] (iH qs n):=by unfold chD;rw[hv];exact A2 uc
  obtain⟨t,ak,aB,hW,aC⟩:=Abl hq 62 [] n s0 hg hv (by simp) (λx hx=>by cases hx) ()
  have ak:(n::t).Nodup:=ak;have ap:∀z∈n::t,nm z=true:=λz hz=>hq.1.1.1 z (aB z hz);have af:∀z∈n::t,↑z<=100:=λz hz=>by have:=wL (ap z hz);omega
  have aD:↑(n::t)<=60:=by
   have:=Kl ak aB;rw[ud] at this;exact uT this hq.2.2
  obtain⟨rs,aK,aL,aV⟩:∃rs:oj Str,chD qs n= .tup [.tup ((n::t).map D.str),.tup (rs.map D.str)]/\((rs= []/\∃z,iH qs (Mz n t)=flt z)∨∃b r,rs=b::r/\nC (iH qs (Mz n t))=u_ b/\rs=(n::t).drop (↑(n::t)-↑rs))/\↑rs<=↑(n::t):=by
   rcases aC with⟨z,h1,h2⟩|⟨b,h1,h2,h3⟩
   ·exact⟨[],e0.trans h2,.inl [1:z:h1],uP _⟩
   ·have h2:b∈n::t:=h2;have aq:(n::t).idxOf b<↑(n::t):=List.idxOf_lt_length_of_mem h2;have aM:↑((n::t).drop ((n::t).idxOf b))=↑(n::t)-(n::t).idxOf b:=vN
    exists (n::t).drop ((n::t).idxOf b),e0.trans h3,.inr ?_,()
    exists b,(n::t).drop ((n::t).idxOf b+1),?_,h1,?_
    ·rw[vb aq]
     congr 1
     have:=(Es h2).1;rw[um aq] at this;exact uN this
    ·rw[aM,Nat.sub_sub_self (UE aq)]
  rw[aK] at i1;erw[i1,tt,us,rfl,aN,x1,r1,rfl,i2,x2,r2,rfl,Z,ao];cases(show r2= [] from ao)
  erw[id i2,ta,ua,rfl,O,am];erw[id Z,tb,ub,rfl,ac,ah];cases zW am;cases zW ah
  exists tt,0,SqT.of aN,1
  exists _,0,_,0,1,q1 _ _ ?_;exists 8,N2,q2
  exists 0,uP _,λt0 ad=>⟨ta,t0,0,1,SqT.of (qf ad _ _ _ O),SqT.of qg,?_⟩;have m0:=qf ad (.tup ([]:oj V))
  exists 0,iL rfl (q2 _ _ ?_);exists 8,N3,q3
  exists 0,ta,_,_,0,1,SqT.of (m0 _ _ O),qE (j:=0) rfl,0,1,0,iL (by rw[A6 rfl];rfl) ?_
  exists 0,ta,0,SqT.of (m0 _ _ O),(),λtq aO=>?_
  have mq:=qf aO (gT P w tq (n::t));have sq:=(s1.trans m0).trans mq;have al:=mq _ _ (m0 _ _ O)
  exists tq,n::t,1,qg,ak,()
  exists 0,ta,0,.inr (SqT.of al);rw[ud]
  exists 5
  refine⟨1,V6,by rw[A6 rfl];rfl,?_⟩
  rw[A2 uc];refine q3 _ _ ?_;exists 8,N4,q4;have aW:↑t+1<=60:=aD;have aP:(↑((n::t).map V.str):Int)-1=(↑t:Int):=by rw[ud,uu];omega
  exists 0,ta,0,.inr (SqT.of al),_,0,1,↑t,by rw[aP],(),()
  let J_:Nat->L2.St->Hp->Prop:=λi σ H'=>∃(x4:om V),σ= [u_ (.ref px),u_ (.str n),u_ (.ref ta),u_ (.ref tb),x4,U_]/\ia H H'/\ia H1 H'
  refine XR (n:=↑t) J_ ⟨U_,1,sq,m0.trans mq⟩ ?_ ?_
  ·rintro i σ H' hi ⟨x4,rfl,sm,ag⟩;have el:=ag _ _ O;have au:i<↑(n::t):=by rw[uu];omega
   have aw:i+1<↑(n::t):=by rw[uu];omega
   have ax:atI ((n::t).map V.str) (0+(i:Int))=u_ (V.str (n::t)[i]):=by
    rw[show(0:Int)+(i:Int)=((i:Nat):Int) by omega]
    exact qE (by rw[uM,um au];rfl)
   have aE:atI ((n::t).map V.str) (0+(i:Int)+1)=u_ (V.str (n::t)[i+1]):=by
    rw[show(0:Int)+(i:Int)+1=((i+1:Nat):Int) by omega]
    exact qE (by rw[uM,um aw];rfl)
   have aQ:=CI (Sn.at i hW (um au) (um aw));have aX:=af _ (uO aw)
   exists 0,0,0,ta,_,_,0,1,SqT.of el,ax,px,_,qs,1,ap _ (uO au),hP.same sm,hq,λv H3 s3 Z _=>?_
   exists 0,0,_,0,1,ta,_,_,0,1,SqT.of (s3 _ _ el),aE
   exists sml rfl,λt5 ae=>?_;have m5:=qf ae (.tup [V.str "stuck",V.str (n::t)[i+1]]);rw[aQ] at Z
   exists _,[.str "stuck",.str (n::t)[i+1]],Z.mono m5.tk,Is.new (ds:= [.str "stuck",.str (n::t)[i+1]]) ⟨_,0,Yb (),_,0,[1:fits ()],1⟩ ae,1,1,(by simp[dpL,dp])
   rw[(eqNL_iff (show nL [.str "stuck",.str (n::t)[i+1]]=v_ from rfl)).mpr rfl]
   exists 0,iP ?_;exact[0:(sm.trans s3).trans m5:(ag.trans s3).trans m5]
  ·rintro σ H' ⟨x4,rfl,sm,ag⟩;have el:=ag _ _ O;refine q4 _ _ ?_;exists 8,N5,q5;have aF:=D7 n t;have ax:atI ((n::t).map V.str) (-1)=u_ (V.str (Mz n t)):=by
    erw[List.getLast?_eq_some_iff.mp aF,ys,e];rw[e,uD];exact XU
   have aR:Mz n t∈n::t:=Uz aF
   exists 0,0,0,ta,_,_,0,1,SqT.of el,ax,px,_,qs,1,ap _ aR,hP.same sm,hq,λv H3 s3 i4 aY=>q5 _ _ ?_;exists 8,N6,q6;have S3:=ag.trans s3
   exists 0,uP _,λt6 aG=>⟨tb,t6,0,1,SqT.of (qf aG _ _ _ (S3 _ _ ac)),SqT.of qg,?_⟩;have m6:=qf aG (.tup ([]:oj V));have S6:=S3.trans m6;have E6:=(sm.trans s3).trans m6;have i6:=i4.mono m6.tk;generalize upd H3 t6 (.tup ([]:oj V))=H6 at m6 S6 E6 i6⊢;rcases aL with⟨rfl,z,hz⟩|⟨b,r,rfl,hb,hd⟩
   ·exists 0,ld rfl ?_;rw[hz] at i6;erw[i6,tf,uf,rfl,aS,x1,r1,rfl,[rfl,_],_]
    exists 0,tf,_,_,0,1,SqT.of aS,qE (j:=0) rfl,1;rw[A6 rfl];exact k _ E6
   ·exists 0,iL rfl (q6 _ _ ?_);rw[CI hb] at i6;have aT:b∈n::t:=by
     have:b∈b::r:=uj;rw[hd] at this;exact U1 this
    have aZ:=af _ aT
    exists 0,0,tb,_,_,0,1,SqT.of (S6 _ _ ac),qE (j:=0) rfl
    exists sml rfl,λt7 aH=>?_;have m7:=qf aH (.tup [V.str "stuck",V.str b])
    exists _,[.str "stuck",.str b],i6.mono m7.tk,Is.new (ds:= [.str "stuck",.str b]) ⟨_,0,Yb (),_,0,[1:fits ()],1⟩ aH,1,1,(by simp[dpL,dp])
    rw[(eqNL_iff (show nL [.str "stuck",.str b]=v_ from rfl)).mpr rfl]
    have S7:=S6.trans m7;have E7:=E6.trans m7;generalize upd H6 t7 (.tup [V.str "stuck",V.str b])=H7 at m7 S7 E7⊢
    exists v_,1;rw[A3 rfl]
    exists 0,0,ta,0,.inr (SqT.of (S7 _ _ O)),0,tb,0,.inr (SqT.of (S7 _ _ ac)),_,0,1;erw[DX (b::r),aa,a1];have lo:(↑((n::t).map V.str):Int)-(↑((b::r).map V.str):Int)=((↑(n::t)-↑(b::r):Nat):Int):=by rw[ud,ud];omega
    exists 0,ta,0,SqT.of (S7 _ _ O),λhw=>?_,λhw p hp=>?_
    ·have hw:=hw.1;rw[lo,HT.sIx_nat,ud] at hw;have e0:↑(n::t)-↑(b::r)=0:=by omega
     rw[e0,Hr] at hd;have aI:=i2.mono S7.tk;rw[<-hd] at aI
     exists 0,_,_,aI,Z.mono S7.tk,aa,aa,()
     rw[(eqNL_iff aa).mpr rfl];exact k _ E7
    ·rw[lo,JU (by rw[ud];omega),<-tV,<-hd]
     have m8:=qf hp (.tup ((b::r).map V.str))
     exists 0,_,_,Is.new (ah.mono S7.tk) hp,Z.mono (S7.trans m8).tk,aa,aa,()
     rw[(eqNL_iff aa).mpr rfl];exact k _ (E7.trans m8)
end
namespace Sy
variable {Y:Sy}
nonrec def Bf (l:oj (Str×Y.G))(n:Str)(g:Y.G):Prop:=(Y.fin g=v_/\Y.said g=U_)∨So Y (l.map (·.1)) n g
def Bf.more {l O:oj (Str×Y.G)}{n:Str}{g:Y.G}(h:Bf l n g)(hn:∀p∈l,p∈O):Bf O n g:=
 h.imp id λh=>h.more λm hm=>by
  erw[Ac.mp hm,p,U,rfl];exact Ac.mpr [p:hn p U:1]
structure Bfs (S:Ss Y):Prop where
 st:∀p∈S.stk,Bf S.don p.1 p.2
 dn:∀l1 p l2,S.don=l1++p::l2->Bf l1 p.1 p.2
def BU {α:Type}{l l1 l2:oj α}{x p:α}(h:l++ [x]=l1++p::l2):(l=l1/\x=p)∨∃O,l=l1++p::O:=by
 rcases tR l2 with rfl|⟨O,y,rfl⟩
 ·exact .inl (RK h rfl|>.imp id λz=>(pB z).1)
 ·right;exists O;have:l++ [x]=(l1++p::O)++ [y]:=by rw[h];simp
  exact(RK this rfl).1
variable {n0:Str}{S:Ss Y}
def AaN (h:Y.Ok)(hs:SOk n0 S)(c:Bfs S):Bfs (nxt S):=by
 erw[S,stk,don];cases stk with
 |nil=>exact c
 |cons p r=>
  erw[p,n,g];have c0:=c.st (n,g) uj;have put:∀g',Bf don n g'->Bfs (⟨(n,g')::r,don⟩:Ss Y):=λg' hb=>⟨λp U=>by
   rcases A9.mp U with rfl|U
   ·exact hb
   ·exact c.st p (ui _ U),c.dn⟩
  have on:∀g',Y.fin g=V6->step Y (F Y) g=g'->(∀m,Y.want g=u_ m->Y.g0 m=U_∨m∈don.map (·.1))->Bf don n g':=by
   intro g' hf e hm;rcases c0 with⟨z,_⟩|⟨s,k,h1,h2,h3⟩
   ·have z:Y.fin g=true:=z;rw[hf] at z;cases z
   ·have h2:g=it Y (F Y) k s:=h2;refine .inr ⟨s,k+1,h1,by rw[wZ,<-h2,e],λi hi ac m Z=>?_⟩
    by_cases ci:i<k
    ·exact h3 i ci ac m Z
    ·have:i=k:=by omega
     subst this;rw[<-h2] at Z;exact hm m Z
  unfold nxt;simp only;cases hf:Y.fin g with
  |true=>
   rw[A3 rfl];exists λp U=>(c.st p (ui _ U)).more λq hq=>vq _ hq,λl1 p l2 e=>?_;rcases BU e with⟨rfl,rfl⟩|⟨l3,e⟩
   ·exact c0
   ·exact c.dn l1 p l3 e
  |false=>
   rw[A2 uc];have aa:step Y (F Y) g=match Y.want g with
     |none=>Y.own g
     |some m=>match F Y m with
      |some a=>Y.tk g a
      |none=>Y.stuck g m:=by
    unfold step;rw[hf,A2 uc]
    all_goals rfl
   cases Z:Y.want g with
   |none=>exact put _ (on _ hf (by rw[aa,Z]) λm z=>by rw[Z] at z;cases z)
   |some m=>
    rw[Z] at aa;simp only at aa⊢;cases O:yet ([(n,g)::r:don]:Ss Y) m with
    |some o=>
     cases o with
     |some a=>
      have hF:=Sr h hs hf Z O;refine put _ (on _ hf (by rw[aa,hF]) λm' z=>?_)
      rw[Z] at z;cases z;unfold yet at O;by_cases cm:m∈((n,g)::r).map (·.1)
      ·rw[A3 cm] at O;cases O
      ·rw[A2 cm] at O;cases hg:Y.g0 m with
       |none=>exact .inl rfl
       |some gm=>
        rw[hg] at O;simp only at O;cases hd:Yd don m with
        |none=>rw[hd] at O;cases O
        |some gd=>exact .inr (Ac.mpr [_:Xx hd:1])
     |none=>exact put _ (.inl [h.fs g m:h.ss g m])
    |none=>
     simp only;erw[jH O,h1,[g',hg],h2];rw[hg];exists λp U=>?_,c.dn;rcases A9.mp U with rfl|U
     ·exact .inr ⟨g',(0),hg,1,λi hi=>A7 hi (Ur i)⟩
     ·exact c.st p U
def nx_bf (h:Y.Ok){n0:Str}{S:Ss Y}(O:SOk n0 S)(c:Bfs S):∀k,Bfs (nx S k)
 |0=>c
 |k+1=>AaN h (nx_ok h O k) (nx_bf h O c k)
def S0_bf {n:Str}{g:Y.G}(O:Y.g0 n=u_ g):Bfs (S0 Y n):=by
 unfold S0;rw[O];exists λp U=>?_,λl1 p l2 e=>?_
 ·cases Aa.mp U;exact .inr ⟨g,(0),O,1,λi hi=>A7 hi (Ur i)⟩
 ·have e: []=l1++p::l2:=e;simp at e
end Sy
section
variable {qs:oj (Str×D)}
def SX (ha:GA g):∀x∈QW (Sy.step (SyP qs) (FP qs) g),x∈QW g∨(g.en=U_/\∃d,x= .tup [yg g,d]):=by
 have U:∀d,g.en=U_->∀x∈QW (QX g d),x∈QW g∨(g.en=U_/\∃d,x= .tup [yg g,d]):=by
  intro d Z x O;rw[(zf ha Z d).1] at O;rcases Ab.mp O with O|O
  ·exact .inl O
  ·cases Aa.mp O;exact .inr [Z:d:1]
 rw[zI];cases Z:g.en with
 |some d=>exact λx O=> .inl O
 |none=>
  simp![vK,A2 uc];have U:∀d,∀x∈QW (QX g d),x∈QW g∨(True/\∃d,x= .tup [yg g,d]):=λd x O=>(U d Z x O).imp id λz=>[trivial:z.2];cases hw:yJ g with
  |none=>
   show∀x∈QW (na qs g),_;unfold na;split
   ·exact U _
   ·exact λx O=> .inl O
  |some m=>
   simp only;cases FP qs m with
   |some a=>exact U _
   |none=>exact λx O=> .inl O
def Adf (U:Qi qs):∀(k:Nat) {g:Gp},GI g->GA g->∀x∈QW (itP qs k g),x∈QW g∨∃i,(itP qs i g).en=U_/\∃d,x= .tup [yg (itP qs i g),d]
 |0,g,h,ha=>λx O=> .inl O
 |k+1,g,h,ha=>by
  erw[Zd U (Sc U) h ha,h1,h2];intro x O;rcases Adf U k h1 h2 x O with O|⟨i,hi⟩
  ·rcases SX ha x O with O|O
   ·exact .inl O
   ·exact .inr [(0):O]
  ·exact .inr [i+1:hi]
variable {z:Str}
def so (hq:Qi qs){n:Str}{l1 l2:oj (Str×Gp)}{p:Str×Gp}(h:Dn qs n don)(e:don=l1++p::l2){an v:D}(Z:D.tup [.tup [.str kd,.str z],an]∈QW p.2)(hk:mM kd=V6)(hv:p.2.en=u_ (.tup [.str "said",v]))(hz:z∈don.map (·.1)):z∈l1.map (·.1):=by
 have hp:p∈don:=by rw[e];simp
 erw[zc h hp,s,e1,e2];erw[Ac.mp hz,[U,pz],aa,rfl];erw[zc h aa,sz,ez,_];have ez:g0D U (qH qs U)=u_ sz:=ez;cases hg:g0D n (qH qs n) with
 |none=>rw[Kf hg h] at hp;cases hp
 |some g=>
  erw[id h,j,hj];have hb:=Sy.nx_bf (Qs qs) (Sy.S0_ok hg) (Sy.S0_bf hg) j;rw[hj] at hb;have hs:YJ p.2=u_ v:=by
   unfold YJ;rw[hv]
   rfl
  rcases hb.dn l1 p l2 e with⟨_,z⟩|⟨s',k,h1,h2,h3⟩
  ·have z:YJ p.2=none:=z;rw[hs] at z;cases z
  ·have h1:g0D p.1 (qH qs p.1)=u_ s':=h1;rw[e1] at h1;cases h1;have O:(itP qs k s).en.isSome=true:=by
    show(Sy.it (SyP qs) (Sy.F (SyP qs)) k s).en.isSome=v_;rw[<-h2,hv]
    rfl
   rw[e2] at Z;rcases Adf hq 302 (Kb hq e1).1 (KY e1).1 _ Z with Z|⟨i,hi,d,hd⟩
   ·rw[(KY e1).2] at Z;cases Z
   ·have ac:i<k:=by
     rcases UG i k with z|z
     ·exact z
     ·erw[UV z,d,rfl];have:itP qs (k+d) s=itP qs k s:=(Sy.ZH (Y:=SyP qs) k d s).trans (Sy.XS (Y:=SyP qs) O d);rw[this] at hi;rw[hi] at O;cases O
    have hw:yJ (itP qs i s)=u_ U:=by
     have hd:yg (itP qs i s)= .tup [.str kd,.str U]:=by
      injection hd with hd
      injection hd with hd _
      exact hd.symm
     unfold yJ;rw[hd];show(if mM kd=v_ then U_ else u_ U)=u_ U
     rw[hk,A2 uc]
    rcases h3 i ac (by show(itP qs i s).en.isSome=V6;rw[hi];rfl) U hw with y|y
    ·have y:g0D U (qH qs U)=none:=y;rw[ez] at y;cases y
    ·exact y
end
variable {X:Cx}{K:o0}
def IR (h:X.K=K):SlR X (Ach K):=h▸wG
variable {xs:oj V}{y:V}
def Py {lo hi:om Int}(h:y∈ni xs lo hi):y∈xs:=by
 unfold ni at h;exact U1 (rP h)
def Az {H:Hp}:∀{zs:oj D}{vs:oj V},L2.IsL H (zs.map λ_=>D.bl v_) vs->vs=(GN ↑zs v_).map V.bl
 | [],_,h=>h
 |z::r,_,h=>by
  erw[h,v,us,rfl,rfl,h2];rw[Az h2]
  rfl
inductive Mf (K:PySem.W.Frag):Sp
 |mk (q:Addr)(ns:List Int)(_:vs= [.ref q])(_:SqL K H q (ns.map V.int))(_:↑ns<=63)(_:∀H',Q (.bl v_) H')
section
variable {P:o9}{w:og}{K:o0}{mg:Str->om o6}{base:o8}{a:Ad}{g:Ga}
def AaH:#[C,20,a.f_law,a.d_law,["script"],(Mf K)]:=by
 have jO:=#[DO,T];have Kv:=#[Lf,T];have Wy:=#[ON,T];have zG:=#[Acr,T,C];have aa:=#[AaG,T,C];have O:=#[Lk,T,C];have Wa:=#[Acq,T,C];exists 9,T.Br,JN
 erw[h,q,ns,rfl,hq,bN,k];have hs:=uI;exists 3,%[#[qG,(1),JN.nd,#[qv,Kv,T.mh,#v[pv 0]]],#[qG,(2),JN.nd,#[wn,T.M_Project,Wy,T.m_Project,T.lZ,qA,#v[#[qW,qZ,T.QH,vn,#v[pv 1]]]]],#[qG,(3),JN.nd,#[qY,xp,#[qv,jO,T.lE,#v[pv 0,qh]],#[qx,#[oY,1,rfl],T.z_max,boot_max,#v[qh,#[qY,WW,#[qx,qD,T.Q0,uL,#v[pv 1]],qh]]]]],#[qI,#[qm,oy,#[qx,qD,T.Q0,uL,#v[pv 1]],qh],%[|#[qG,(1),JN.nd,#[Ys,KI,pv 1,#[YM,pv 3],#[YM,#[qY,yi,pv 3,qh]]]]],qr],#[Je,#[Kt,4,pv 1],#[wC,Qe #[qN,(4),JN.nd] (Qe #[qN,(5),JN.nd] YH)],%[#[qI,#[Qv,#[Qh,#[qv,zG,T.lm,#v[pv 2,pv 4]]]],%[|#[qp,YV]],qr]|#[qI,#[qm,ou,#[qF,qz,pv 5,qh],ql],%[#[qG,2,(6),4,JN.nd,rfl,gY rfl,#[qv,aa,T.oR,#v[pv 2,pv 4]],_,_],@qI _ _ _ _ _ _ _ _ #[Xp,#[qm,ou,#[qF,qz,pv 6,#[KZ,6,Ax,qh]],pv 4],#[jq,#[qm,ou,#[qx,oZ,T.Q0,uL,#v[#[qW,#[oX,1,rfl],T.z_set,L2.BJ,#v[pv 6]]]],#[qx,qD,T.Q0,uL,#v[pv 6]]]]].pt %[|#[qp,YV]] qr|#[Je,#[YW,#v[#[qx,qD,T.Q0,uL,#v[pv 6]]]],#[qN,2,(7),1,JN.nd,rfl,gY rfl,_],%[#[qG,(8),JN.nd,#[qv,O,T.mS,#v[pv 2,#[qF,qz,pv 6,pv 7]]]],#[qI,#[Qv,#[Qh,#[qv,Wa,T.lV,#v[pv 2,#[qF,qz,pv 6,pv 7],pv 8]]]],%[|#[qp,YV]],qr],#[AS,2,["ask","answer","order"],(2),[6],(9),12,JN.nd,rfl,Go rfl,Ea (qi C9) ["script","pairs","project","at","name","source","order","k","run","needed"],rfl,#[Xo,#[qF,qz,pv 8,qh]],(λ_ _ _ _ _ _=>#[Ko,1,K,3,(2),1,rfl,rfl,Qe #[qN,(0),(show Vl (["ask","answer","order"]:oj Str) by decide+kernel)] (Qe #[qN,(1),(show Vl (["ask","answer","order"]:oj Str) by decide+kernel)] YH),_,_]),(λ_ _ _ _ _ _=>(@Dl _ _ _ #[X1,#[qm,8,#[Zh,1,K,rfl],#[qF,#[Kc,1,K,rfl],pv 0,qh],#[Q9,#v[ql,ql]],#[w]],#[jP,#[qm,8,#[Zh,1,K,rfl],#[qF,#[Kc,1,K,rfl],pv 0,qh],pv 2,#[w]]]].pt)),(λ_ _ _ _ _ _=>#[qF,#[Kc,1,K,rfl],pv 0,qh]),_,_,_]|@qI _ _ _ _ _ _ _ _ #[X1,#[qm,Qr,#[qF,qz,#[qF,qz,pv 8,qh],qh],ql],#[jP,#[Qv,#[Qh,#[qx,#[Jy,1,rfl],T.z_all,h_,#v[#[xN,["other","order","k"],(1),[6,7],Ea (qi C9) ["script","pairs","project","at","name","source","order","k","run","needed"],#[Kt,4,pv 9],(λ_ _ _ _ _ _=>#[qN,(0),(show Vl (["other","order","k"]:oj Str) by decide+kernel)]),(λ_ _ _ _ _ _=>#[Qg,8,#[Zh,1,K,rfl],pv 0,#[Ys,IR (K:=K) rfl,pv 1,JC,#[YM,pv 2]],#[w]])]]]]]]].pt %[|#[qp,YV]] qr]]],qr]]]|#[qp,YV]]
 exists 8,N1,q1
 exists 0,q,ns,1,hq,λL ps us H1 s1 hL am hok bO bP=>q1 _ _ ?_;have hq:=Ni hq s1;exists 8,N2,q2
 exists 0,L,us,1,.inl [SqL.of hL:λt ht=>?_];have m1:=qf ht (.tup us);intro x dx nx a7 bQ;have m2:ia (upd H1 t (.tup us)) (upd (upd (upd H1 t (.tup us)) dx (.own x)) x (.ins a.qJ dx [])):=λb ob e=>by
  rwa[qj (qk e nx),qj (qk e a7)]
 have aD:=m1.trans m2
 exists x,dx,t,ps,us,1,qg,m2 _ _ qg,am.mono aD.tk,hok,(),λqs H2 keep hP hT ac=>[1:q2 _ _ ?_]
 have s2:ia H1 H2:=λb ob e=>keep b ob (aD _ _ e) (qk (m1 _ _ e) nx);have ae:=s2 _ _ hL;have aE:=am.mono s2.tk;exists 8,N3,q3
 exists 0,q,ns,(1),1,(),Ni hq s2,λc1=>?_
 exists 0,L,us,1,.inl (SqL.of ae),_,0,1,_,0,_,0,1,(by show(0:Int)<(if(↑us:Int)-2>1 then(↑us:Int)-2 else 1);split<;>omega),q3 _ _ ?_
 exists 8,N4,q4;have aF:∀(l:o3) (zs:oj V) (H3:Hp) (at_:om V),ia H2 H3->H3 l=u_ (.lst zs)->(∀y∈zs,y∈us)->N4 [u_ (.ref q),u_ (.ref l),u_ (.ref x),at_,U_,U_,U_,U_,U_,U_] H3:=by
  intro l zs H3 at_ s3 hl U;refine q4 _ _ ?_;exists 8,N5,q5
  exists 0,l,1,[_:SqL.of hl]
  let J_:Nat->L2.St->Hp->Prop:=λi σ H'=>(∃u4 u5 u6 u7 u8 u9,σ= [u_ (.ref q),u_ (.ref l),u_ (.ref x),at_,u4,u5,u6,u7,u8,u9])/\ia H3 H'
  refine Bx (xs:=zs) J_ [⟨_,_,_,_,_,0⟩:ia.refl _] (λi σ H' _ h=>SqL.of (h.2 _ _ hl)) ?_ ?_
  ·rintro i y σ Ha hy ⟨⟨u4,u5,u6,u7,u8,u9,rfl⟩,sa⟩;erw[List.getElem?_of_mem (U y (vj hy)),j,hj];have aG:j<↑ps:=by
    have:=(Ae.mp hj).1
    rwa[↑am,ud] at this
   obtain⟨y',aH,iy⟩:=aE.get (i:=j) (d:=prD ps[j]) (by rw[uM,um aG];rfl)
   rw[hj] at aH;cases aH;have ao:ps[j]∈ps:=uO aG;obtain⟨⟨m,d⟩,a8⟩:∃p,ps[j]=p:=⟨0⟩;rw[a8] at iy ao;have iy:Is H2 (.tup [.str m,d]) y:=iy;erw[iy,tt,ut,rfl,a9,y1,r1,rfl,[rfl,bR],sv,r2,rfl,aI,ba];cases(show r2= [] from ba)
   have bb:m∈qs.map (·.1):=Ac.mpr [_:ac.mem_iff.mpr ao:1];have aJ:qH qs m=d:=EX hT.1.1.2 (ac.mem_iff.mpr ao);erw[jU hT bb,aK,kk,e,hd,bc,bL];have ap:=s3.trans sa
   exists tt,0,SqT.of (ap _ _ a9),1
   exists _,0,_,0,1;show nh _ _ _ _ Ha;exists 8,B1,b1
   exists 0,0,x,m,qs,1,aK,hP.same ap,hT,λHb sb=>[0:iP (b1 _ _ ?_)];have aq:=ap.trans sb;rw[<-aJ,hd] at aI;erw[aI,ts,uv,rfl,bd,z1,w1,rfl,[rfl,be],ev,w2,rfl,bS,aL];cases(show w2= [] from aL)
   exists 0,ts,_,_,0,1,SqT.of (aq _ _ bd),qE (j:=0) rfl,1,0;by_cases ck:kk="leaf"
   ·refine iL (by rw[ck,A6 rfl];rfl) [⟨_,_,_,_,_,0⟩:sa.trans sb]
   refine ld (by rw[ue (λz=>ck (V.str.inj z))];rfl) ?_
   obtain⟨gp,hg⟩:∃gp,g0D m (qH qs m)=u_ gp:=by
    rw[hd];unfold g0D
    try dsimp only
    rw[A2 ck];split<;>exact⟨0⟩
   exists 8,B2,b2
   exists 0,0,x,m,qs,1,aK,hP.same aq,hT,λtO Hc don sc hO Z _ bT=>b2 _ _ ?_;have bf:=aq.trans sc;have aM:=LT Z;have aN:(don.map (·.1)).length<=60:=ES hT Z aM λx hx=>hx;have bg:↑don<=60:=by rwa[ud] at aN
   have aO:(don.map λp=>V.str p.1)=(don.map (·.1)).map V.str:=by rw[uU];rfl
   rw[aO] at hO;have au:atI ((don.map (·.1)).map V.str) (-1)=u_ (V.str m):=by
    erw[List.getLast?_eq_some_iff.mp (KH hg Z),ys,e];rw[e,uD];exact XU
   exists 8,B3,b3
   exists 0,0,tO,_,_,0,1,SqT.of hO,au,0,1,0,iL (by rw[A6 rfl];rfl) ?_
   exists 0,tO,0,SqT.of hO,(),λtq bh=>?_
   have mq:=qf bh (gT P w tq (don.map (·.1)))
   exists tq,don.map (·.1),1,qg,aM,()
   have af:=mq _ _ hO;generalize upd Hc tq (gT P w tq (don.map (·.1)))=Hd at mq af⊢
   exists 0,tO,0,.inr (SqT.of af)
   exists 5
   refine⟨1,V6,by rw[ud,ud,ud,A6 rfl];rfl,?_⟩
   rw[A2 uc];refine b3 _ _ ?_;have bo:=bf.trans mq;have bp:=(sa.trans sb).trans (sc.trans mq)
   exists 0,tO,0,.inr (SqT.of af),↑don,by rw[ud,ud],(),()
   let J2_:Nat->L2.St->Hp->Prop:=λi σ H'=>(∃u7 u8 u9,σ= [u_ (.ref q),u_ (.ref l),u_ (.ref x),at_,u_ (.str m),u_ (.ref ts),u_ (.ref tO),u7,u8,u9])/\ia Hd H'
   refine XR (n:=↑don) J2_ [[_:_:0]:ia.refl _] ?_ ?_
   ·rintro i σ He hi ⟨⟨u7,u8,u9,rfl⟩,se⟩;have aw:=se _ _ af;have aP:atI ((don.map (·.1)).map V.str) (0+(i:Int))=u_ (V.str don[i].1):=by
     rw[show(0:Int)+(i:Int)=((i:Nat):Int) by omega]
     exact qE (by rw[uM,uM,um hi];rfl)
    have aQ:don[i]∈don:=uO hi;erw[zc Z aQ,si,ad,ag];have ag:don[i].2=itP qs 302 si:=ag;have aR:=ER hT Z (Tw (f:=(·.1)) aQ);have aS:=bo.trans se;show nh _ _ _ _ He;exists 8,D1,d1
    exists 0,0,0,tO,_,_,0,1,SqT.of aw,aP,x,_,qs,si,1,aR,hP.same aS,hT,ad,λrv Hf sf gI eI iR=>d1 _ _ ?_;exists 8,D2,d2
    exists 0,0,0,tO,_,_,0,1,SqT.of (sf _ _ aw),aP,0,x,rv,_,qs,si,1,aR,(hP.same aS).same sf,hT,ad,iR,λHg sg=>[0:iP (d2 _ _ ?_)];have iR:=iR.mono sg.tk;rw[Bv,KJ] at iR;have aT:=sf.trans sg;have aU:=aT _ _ aw;erw[iR,tr,ur,rfl,aV,v1,bU,rfl,iA,v2,bq,rfl,iE,bt];cases(show bq= [] from bt)
    exists 8,D3,d3;erw[id iA,ta,ua,rfl,aW,ax];have hF:=MT hT ad 302;have al:QW (itP qs 302 si)=QW don[i].2:=by rw[ag]
    generalize QW (itP qs 302 si)=as at iA ax hF al;have bu:↑ua=↑as:=↑ax
    exists 0,tr,_,_,0,1,SqT.of aV,qE (j:=0) rfl,ta,ua,1,SqT.of aW,λbv A0 aX=>?_;refine Eb (tl:= [u_ (.ref tO)]) (λi ys H'=>∃zs:oj Str,ys=zs.map V.str/\(∀z∈zs,∃kd an,D.tup [.tup [.str kd,.str z],an]∈as/\mM kd=V6/\z∈don.map (·.1))/\↑zs<=i/\ia Hg H') aW bv ⟨[],1,(λz hz=>by cases hz),uq _,qf aX _⟩ (λi ys H' h=>by erw[h,_,_,_,_,h];exact h) ?_ ?_
    ·rintro i' xv ys H' w0 w1 hx ⟨zs,rfl,U,aY,s'⟩ bw;have ay:i'<↑as:=by rw[<-bu];exact(Ae.mp hx).1
     erw[ax.get (i:=i') (d:=as[i']) (um ay),x',aZ,ix];rw[hx] at aZ;cases aZ;erw[hF _ (uO ay),kd,z,an,e',bV,aA];have bx:D.tup [.tup [.str kd,.str z],an]∈as:=by rw[<-e'];exact uO ay
     rw[e'] at ix;erw[ix,t6,w6,rfl,bA,x7,r7,rfl,i7,x8,r8,rfl,i8,bB];cases(show r8= [] from bB)
     erw[i7,t7,w7,rfl,aB,x9,r9,rfl,[rfl,be],xa,ra,rfl,[rfl,bM],bC];cases(show ra= [] from bC)
     exists t6,0,SqT.of (s' _ _ bA),1
     exists _,0,_,0,1
     try dsimp![YY,Ge]
     exists 0,t7,_,_,0,1,SqT.of (s' _ _ aB),qE (j:=0) rfl,sml rfl,λlD bD=>⟨lD,0,.inl (SqL.of qg),1,1,?_⟩;have mD:=qf bD (.lst [V.str "thing",V.str "rule"]);have sD:=s'.trans mD;have ah:=mD _ _ bw;generalize upd H' lD (.lst [V.str "thing",V.str "rule"])=bW at mD sD ah⊢
     exists 0;have a1:inV (V.str kd) [V.str "thing",V.str "rule"]=decide (kd∈(["thing","rule"]:oj Str)):=jd kd ["thing","rule"];rcases aA with⟨hh,_⟩|⟨hh,bE,_⟩
     ·refine iL (a1.trans (ue λhm=>?_)) ?_
      ·simp![uG,uH,uS] at hm;rcases hm with rfl|rfl
       ·exact A7 hh ()
       ·exact A7 hh ()
      exact iL rfl ⟨ah,[_:0],zs,1,U,(),sD⟩
     ·refine ld (a1.trans (A6 (by rcases bE with rfl|rfl<;>simp))) ?_
      exists 0,t7,_,_,0,1,SqT.of (sD _ _ aB),qE (j:=1) rfl,0,tO,0,.inr (SqT.of (sD _ _ aU)),1,JV _,0;have a2:inV (V.str z) ((don.map (·.1)).map V.str)=decide (z∈don.map (·.1)):=jd _ _;by_cases cz:z∈don.map (·.1)
      ·refine ld (a2.trans (A6 cz)) ?_
       exists 5
       refine⟨0,t7,_,_,0,1,SqT.of (sD _ _ aB),qE (j:=1) rfl,ah,[_:0],zs++ [z],by simp,λy hy=>?_,by rw[uB,v9];omega,λb o e=>by rw[qj (qk e aX)];exact sD _ _ e⟩
       rcases Ab.mp hy with hy|hy
       ·exact U y hy
       ·cases Aa.mp hy;exact⟨kd,an,bx,hh,cz⟩
      ·exact iL (a2.trans (ue cz)) ⟨ah,[_:0],zs,1,U,(),sD⟩
    ·rintro ys Hh ⟨zs,rfl,U,aY,sh⟩ a3;refine d3 _ _ ?_;erw[BA hT ad,ek,ex,ee,_];rw[ee] at iE;have iE:=iE.mono sh.tk;erw[iE,tE,uE,rfl,bF,y1,bX,rfl,[rfl,_],y2,bY,rfl,bZ,aL]
     exists 0,tr,_,_,0,1,SqT.of (sh _ _ aV),qE (j:=1) rfl,tE,_,_,0,1,SqT.of bF,qE (j:=0) rfl,1,0;have a4:=(se.trans aT).trans sh;by_cases ck:ek="said"
     ·refine ld (by rw[ck,A6 rfl]) ?_
      have hv:don[i].2.en=u_ (.tup [.str "said",ex]):=by
       rw[ag];have hf:=yh ad;unfold LR at ee;cases he:(itP qs 302 si).en with
       |none=>rw[he] at hf;cases hf
       |some dd=>rw[he] at ee;rw[show dd=_ from ee,ck]
      have ak:don=don.take i++don[i]::don.drop (i+1):=by
       rw[<-vb hi,Te]
      have a5:∀z∈zs,z∈(don.map (·.1)).take i/\↑z<=100:=λz hz=>by
       erw[U z hz,kd,an,h1,h2,h3];rw[al] at h1
       exists 5
       refine⟨?_,by have:=wL (ER hT Z h3);omega⟩
       rw[<-Tz];exact so hT Z ak h1 h2 hv h3
      exists 0,A0,1,[_:SqL.of a3],λB0 bG=>?_;refine Pc (tl:= [u_ (.ref tO),u_ (.int (0+(i:Int)))]) (ds:=zs.map D.str) (λ_=>D.bl v_) a3 (Xy λz hz=>(a5 z hz).2) (by rw[ud];omega) bG ?_ ?_
      ·rintro dd y Hi R bH aC iy hR;erw[Ac.mp bH,z,hz,rfl];erw[iy,rfl,_];have bI:=aC _ _ (sh _ _ aU)
       exists 0,0
       try unfold sC
       have a6:(0:Int)+(i:Int)=((i:Nat):Int):=by omega
       exists 0,0,tO,0,SqT.of bI,λhw=>?_,λhw p hp=>?_
       ·exfalso;have hw:=hw.2;rw[a6,HT.sIx_nat,ud,ud] at hw;omega
       ·have mp:=qf hp (.tup (ni ((don.map (·.1)).map V.str) U_ (u_ (0+(i:Int)))));have ec:ni ((don.map (·.1)).map V.str) U_ (u_ (0+(i:Int)))=((don.map (·.1)).take i).map V.str:=by
         rw[a6,BE,Tz]
        exists p,((don.map (·.1)).take i).map V.str,1,.inr (SqT.of (by rw[<-ec];exact qg)),1,JV _,hR _ _ mp ?_
        show V.bl (inV (V.str z) (((don.map (·.1)).take i).map V.str))=V.bl v_;rw[jd,A6 (a5 z hz).1]
      ·rintro Hi ys aC bJ bK;cases Az bK
       exists B0,0,SqL.of bJ;rw[show(GN ↑(zs.map D.str) v_).all id=v_ by simp]
       exact[0:iP [[_:_:0]:a4.trans aC]]
     ·exact iL (by rw[ue (λz=>ck (V.str.inj z))]) (iL rfl [[_:_:0]:a4])
   ·rintro σ He ⟨⟨u7,u8,u9,rfl⟩,se⟩;exact[⟨_,_,_,_,_,0⟩:bp.trans se]
  ·rintro σ Ha _;exact q5 _ _ (k Ha)
 exists 0,L,us,1,.inl (SqL.of ae),_,0,1,0,lL (λ_=>?_) (λ_=>aF L us H2 _ (ia.refl _) ae λy hy=>hy)
 exists 0,0,0,0,_,0,1,0,L,us,1,SqL.of ae,λp hp=>?_;exact aF p _ _ _ (qf hp _) qg λy hy=>Py hy
end
end K24
namespace K24
open PySem L2 PyProof.Rows
def AbW {K:o0}{h:o8}{mg:Str->om o6}(X:K.In h)(G:h.Ns Vw mg){U Z O aa f1 f2 f3 f4 f5 f6 f7 f8 f9 aU aV aW aX aY aZ a1 a2 a3 a4 a5 a6 a7 a8 a9 ba bb bc bd be bf bg bh bo bp bq bt bu bv bw bx bA bB bC bD bE bF bG bH bI bJ bK bL bM bN bO bP bQ bR bS bT bU bV bW bX bY bZ b3 b4 b5 b6 b7 b8 b9 ca cb cc cd ce cf cg ch ci cj ck:o3}{t1 t2 t3 t4 t5 t6 t7 t8 t9 cm cn:Tok}
  (aK:#[K,"Machine"]=u_ (u_ (.ref U))) (aL:Cls K U) (aB:PySem.W.makesIn K U=v_/\PySem.W.keepIn K (.ref U)=v_)
  (aO:#[K,"Going"]=u_ (u_ (.ref Z))) (aP:Cls K Z) (aJ:PySem.W.makesIn K Z=v_/\PySem.W.keepIn K (.ref Z)=v_)
  (aD:#[K,"PlainOrder"]=u_ (u_ (.ref O))) (aE:Cls K O) (af:PySem.W.makesIn K O=v_/\PySem.W.keepIn K (.ref O)=v_)
  (aM:#[K,"Project"]=u_ (u_ (.ref aa))) (aN:Cls K aa) (aC:PySem.W.makesIn K aa=v_/\PySem.W.keepIn K (.ref aa)=v_)
  (h1:FZg K "is_text" wU f1)
  (h2:FZg K "is_tree" XM f2)
  (h3:FZg K "is_name" wR f3)
  (h4:FZg K "is_pair" wl f4)
  (h5:FZg K "is_row_of_names" yW f5)
  (h6:FZg K "is_answer" Xd f6)
  (h7:FZg K "part_of" Z5 f7)
  (h8:FZg K "pieces_of" xU f8)
  (h9:FZg K "row_of" ZU f9)
  (h10:FZg K "read_lines" JK aU)
  (h11:FZg K "rule_rows" xH aV)
  (h12:FZg K "bad_line" zH aW)
  (h13:FZg K "is_rule" wF aX)
  (cp:FZg K "text_made" xG aY)
  (cq:FZg K "self_made" xQ aZ)
  (cr:FZg K "copy_made" Xq a1)
  (cs:FZg K "row_made" zE a2)
  (cu:FZg K "put_made" zC a3)
  (cv:FZg K "join_made" xB a4)
  (cw:FZg K "first_made" Ju a5)
  (cx:FZg K "rest_made" Xa a6)
  (cy:FZg K "size_made" Xn a7)
  (cz:FZg K "cut_made" zJ a8)
  (cA:FZg K "glue_made" xL a9)
  (cB:FZg K "is_jump_taken" YD ba)
  (cC:FZg K "asked_or_fault" Yn bb)
  (aQ:FZm K U "__init__" "Machine.__init__" ji bc)
  (cD:FZm K U "now" "Machine.now" jD bd)
  (cE:FZm K U "answer" "Machine.answer" Yl be)
  (cF:FZm K U "asked" "Machine.asked" YU bf)
  (cG:FZm K U "go_on" "Machine.go_on" YE bg)
  (cH:FZm K U "is_waiting" "Machine.is_waiting" yd bh)
  (cI:FZm K U "do_row" "Machine.do_row" Ym bo)
  (cJ:FZm K U "hold" "Machine.hold" je bp)
  (cK:FZg K "replayed" zZ bq)
  (aR:FZm K Z "__init__" "Going.__init__" Jq bt)
  (cL:FZm K Z "begin" "Going.begin" jN bu)
  (cM:FZm K Z "look" "Going.look" JR bv)
  (cN:FZm K Z "wanted" "Going.wanted" jg bw)
  (cO:FZm K Z "take" "Going.take" JF bx)
  (cP:FZm K Z "full" "Going.full" Jv bA)
  (aS:FZm K O "__init__" "PlainOrder.__init__" yV bB)
  (cQ:FZm K O "begin_anew" "PlainOrder.begin_anew" QP bC)
  (cR:FZm K O "go_through" "PlainOrder.go_through" QU bD)
  (cS:FZm K O "enter" "PlainOrder.enter" yA bE)
  (cT:FZm K O "settle" "PlainOrder.settle" yk bF)
  (cU:FZm K O "runner" "PlainOrder.runner" ym bG)
  (cV:FZm K O "leave" "PlainOrder.leave" yC bH)
  (cW:FZm K O "go_on" "PlainOrder.go_on" yH bI)
  (cX:FZm K O "answer_yet" "PlainOrder.answer_yet" QS bJ)
  (cY:FZg K "answer_at_once" Yf bK)
  (cZ:FZg K "answer_by" xV bL)
  (c0:FZg K "check_name" Jr bM)
  (c1:FZg K "check_names" jB bN)
  (c2:FZg K "order_from" JB bO)
  (c3:FZg K "order_over" JJ bP)
  (c4:FZg K "answer_of" xz bQ)
  (c5:FZg K "full_run" zA bR)
  (c6:FZg K "value_of" Za bS)
  (c7:FZg K "chain_of" zY bT)
  (c8:FZg K "met_by" KM bU)
  (c9:FZg K "is_source" xO bV)
  (aT:FZm K aa "__init__" "Project.__init__" yZ bW)
  (da:FZm K aa "sources" "Project.sources" ju bX)
  (de:FZm K aa "source_of" "Project.source_of" yo bY)
  (dh:FZm K aa "looked_up" "Project.looked_up" QT bZ)
  (di:FZg K "longest_row" jQ b3)
  (dj:FZg K "_law_cell_at" jF b4)
  (dk:FZg K "_law_pot" Z0 b5)
  (dl:FZg K "_law_take" Zg b6)
  (dm:FZg K "_law_word" zq b7)
  (dq:FZg K "_law_line" J4 b8)
  (dt:FZg K "_law_rule" J0 b9)
  (dv:FZg K "_law_maker" xS ca)
  (dw:FZg K "_law_leaf" J3 cb)
  (dy:FZg K "_law_source" JH cc)
  (dz:FZg K "_law_all_names" YQ cd)
  (dA:FZg K "_law_link" zD ce)
  (dB:FZg K "_law_sources" jE cf)
  (dC:FZg K "_law_told_right" Yk cg)
  (dD:FZg K "_law_rule_of" jC ch)
  (dE:FZg K "_law_run_right" Q2 ci)
  (dF:FZg K "_law_chain_right" yY cj)
  (dG:FZg K "law" C9 ck)
  (ax:#[K,U,"rows"])
  (ay:#[K,U,"rule"])
  (aF:#[K,U,"own"])
  (ao:#[K,U,"boxes"])
  (ap:#[K,U,"place"])
  (aA:#[K,U,"done"])
  (aq:#[K,U,"given"])
  (au:#[K,U,"there"])
  (aH:#[K,Z,"name"])
  (aG:#[K,Z,"order"])
  (aw:#[K,Z,"made_by"])
  (ak:#[K,Z,"rule_asks"])
  (am:#[K,Z,"rule_run"])
  (aI:#[K,Z,"end"])
  (ac:#[K,O,"given_project"])
  (ag:#[K,O,"stack"])
  (ad:#[K,O,"under_way"])
  (ae:#[K,O,"full_runs"])
  (ah:#[K,O,"found"])
  (al:#[K,aa,"by_name"])
  (g1:#[K,"MOST_SIGNS"]=u_ (u_ (.int 300 t1)))
  (g2:#[K,"MOST_PARTS"]=u_ (u_ (.int 40 t2)))
  (g3:#[K,"MOST_SIZE"]=u_ (u_ (.int 600 t3)))
  (g4:#[K,"MOST_DEPTH"]=u_ (u_ (.int 12 t4)))
  (g5:#[K,"MOST_NAME_SIGNS"]=u_ (u_ (.int 24 t5)))
  (g6:#[K,"LETTERS"]=u_ (u_ (.str "abcdefghijklmnopqrstuvwxyz" t6)))
  (g7:#[K,"NAME_SIGNS"]=u_ (u_ (.str "abcdefghijklmnopqrstuvwxyz0123456789./" t7)))
  (g8:#[K,"PERCENT"]=u_ (u_ (.int 37 t8)))
  (g9:#[K,"MOST_LINES"]=u_ (u_ (.int 40 t9)))
  (dH:#[K,"MOST_DONE"]=u_ (u_ (.int 300 cm)))
  (dI:#[K,"MOST_NAMES"]=u_ (u_ (.int 60 cn)))
  (zz:∀x∈(["ord","len","isinstance","str","tuple","all","int","range","zip","dict","sorted","abs","min","sum","max","set"]:oj Str),PySem.W.nsIn K Vw x=u_ U_):∃a,Tx K mg a:=by
 exists 6,d1,F1,Qj,h1,["value"];exists 6,d2,F2,Qj,h2,["value"];exists 6,d3,F3,Qj,h3,["value"];exists 6,d4,F4,Qj,h4,["value"];exists 6,d5,F5,Qj,h5,["tree"];exists 6,d6,F6,Qj,h6,["ask","answer"];exists 6,d7,F7,Qj,h7,["kind","piece","count"];exists 6,d8,F8,Qj,h8,["line","form"];exists 6,d9,F9,Qj,h9,["line","count"];exists 6,dJ,dL,Qj,h10,["value"];exists 6,dM,dN,Qj,h11,["tree"];exists 6,dO,dP,Qj,h12,["tree"];exists 6,dQ,dR,Qj,h13,["value"];exists 6,dS,dU,Qj,cp,["boxes","own","parts"];exists 6,dV,dW,Qj,cq,["boxes","own","parts"];exists 6,dX,dY,Qj,cr,["boxes","own","parts"];exists 6,dZ,d0,Qj,cs,["boxes","own","parts"];exists 6,ea,eb,Qj,cu,["boxes","own","parts"];exists 6,ec,ed,Qj,cv,["boxes","own","parts"];exists 6,ef,eg,Qj,cw,["boxes","own","parts"];exists 6,eh,ei,Qj,cx,["boxes","own","parts"];exists 6,ej,ek,Qj,cy,["boxes","own","parts"];exists 6,el,em,Qj,cz,["boxes","own","parts"];exists 6,eo,eq,Qj,cA,["boxes","own","parts"];exists 6,er,et,Qj,cB,["boxes","word","parts"];exists 6,eu,ew,Qj,cC,["word","held"];obtain⟨ey,ez⟩:=yQ aQ ["self","rule","own"] (by rfl');obtain⟨eA,eB⟩:=yQ cD ["self"] (by rfl');obtain⟨eC,eD⟩:=yQ cE ["self","tree"] (by rfl');obtain⟨eE,eF⟩:=yQ cF ["self"] (by rfl');obtain⟨eG,eH⟩:=yQ cG ["self"] (by rfl');obtain⟨eI,eJ⟩:=yQ cH ["self"] (by rfl');obtain⟨eK,eL⟩:=yQ cI ["self","row"] (by rfl');obtain⟨eM,eN⟩:=yQ cJ ["self","box","tree"] (by rfl');exists 6,eO,eP,Qj,cK,["rule","own","answers"];obtain⟨eQ,eR⟩:=yQ aR ["self","name","source","order"] (by rfl');obtain⟨eS,eT⟩:=yQ cL ["self","rule"] (by rfl');obtain⟨eU,eV⟩:=yQ cM ["self"] (by rfl');obtain⟨eW,eX⟩:=yQ cN ["self"] (by rfl');obtain⟨eY,eZ⟩:=yQ cO ["self","answer"] (by rfl');obtain⟨e0,e1⟩:=yQ cP ["self"] (by rfl');obtain⟨e2,e3⟩:=yQ aS ["self","project"] (by rfl');obtain⟨e4,e5⟩:=yQ cQ ["self","project"] (by rfl');obtain⟨e6,e7⟩:=yQ cR ["self","name"] (by rfl');obtain⟨e8,e9⟩:=yQ cS ["self","name"] (by rfl');obtain⟨fa,fb⟩:=yQ cT ["self","going"] (by rfl');obtain⟨fc,fe⟩:=yQ cU ["self","rule","own"] (by rfl');obtain⟨ff,fg⟩:=yQ cV ["self","going"] (by rfl');obtain⟨fh,fi⟩:=yQ cW ["self","going"] (by rfl');obtain⟨fj,fm⟩:=yQ cX ["self","name"] (by rfl');exists 6,fo,fq,Qj,cY,["source"];exists 6,ft,fu,Qj,cZ,["end"];exists 6,fv,fw,Qj,c0,["name"];exists 6,fx,fy,Qj,c1,["names"];exists 6,fz,fA,Qj,c2,["project","name"];exists 6,fB,fC,Qj,c3,["project","names"];exists 6,fD,fE,Qj,c4,["project","name"];exists 6,fF,fG,Qj,c5,["project","name"];exists 6,fH,fI,Qj,c6,["project","name"];exists 6,fJ,fK,Qj,c7,["project","name"];exists 6,fL,fM,Qj,c8,["project","name"];exists 6,fN,fO,Qj,c9,["value"];obtain⟨fP,fQ⟩:=yQ aT ["self","sources"] (by rfl');obtain⟨fR,fS⟩:=yQ da ["self"] (by rfl');obtain⟨fT,fU⟩:=yQ de ["self","name"] (by rfl');obtain⟨fV,fW⟩:=yQ dh ["self","ask"] (by rfl');exists 6,fX,fY,Qj,di,["names"];exists 6,fZ,f0,Qj,dj,["script","k"];exists 6,ga,gb,Qj,dk,["cell","salt"];exists 6,gc,ge,Qj,dl,["pot","many"];exists 6,gf,gg,Qj,dm,["pot","names"];exists 6,gh,gj,Qj,dq,["pot","names","many","k"];exists 6,gk,gl,Qj,dt,["pot","names"];exists 6,gm,gq,Qj,dv,["pot","names"];exists 6,gr,gt,Qj,dw,["pot","names"];exists 6,gu,gv,Qj,dy,["pot","names"];exists 6,gw,gx,Qj,dz,["script"];exists 6,gy,gz,Qj,dA,["pot","names","k"];exists 6,gA,gB,Qj,dB,["script"];exists 6,gC,gD,Qj,dC,["project","ask","answer"];exists 6,gE,gF,Qj,dD,["source","asks"];exists 6,gG,gH,Qj,dE,["project","name","run"];exists 6,gI,gJ,Qj,dF,["project","name"];exists 6,gK,gL,Qj,dG,["script"];have z:∀x∈(["ord","len","isinstance","str","tuple","all","int","range","zip","dict","sorted","abs","min","sum","max","set"]:oj Str),mg x=none:=λx hx=>PySem.W.mg_none_of X G (zz x hx);simp![uG,vi,uS,forall_eq_or_imp,forall_eq] at z;erw[z,z1,z2,z3,z4,z5,z6,z7,z8,z9,gM,gN,gO,gP,gQ,gR,gS];exact[⟨f1,d1,f2,d2,f3,d3,f4,d4,f5,d5,f6,d6,f7,d7,f8,d8,f9,d9,aU,dJ,aV,dM,aW,dO,aX,dQ,aY,dS,aZ,dV,a1,dX,a2,dZ,a3,ea,a4,ec,a5,ef,a6,eh,a7,ej,a8,el,a9,eo,ba,er,bb,eu,bc,ey,bd,eA,be,eC,bf,eE,bg,eG,bh,eI,bo,eK,bp,eM,bq,eO,bt,eQ,bu,eS,bv,eU,bw,eW,bx,eY,bA,e0,bB,e2,bC,e4,bD,e6,bE,e8,bF,fa,bG,fc,bH,ff,bI,fh,bJ,fj,bK,fo,bL,ft,bM,fv,bN,fx,bO,fz,bP,fB,bQ,fD,bR,fF,bS,fH,bT,fJ,bU,fL,bV,fN,bW,fP,bX,fR,bY,fT,bZ,fV,b3,fX,b4,fZ,b5,ga,b6,gc,b7,gf,b8,gh,b9,gk,ca,gm,cb,gr,cc,gu,cd,gw,ce,gy,cf,gA,cg,gC,ch,gE,ci,gG,cj,gI,ck,gK,U,Z,O,aa⟩:⟨F1,F2,F3,F4,F5,F6,F7,F8,F9,dL,dN,dP,dR,dU,dW,dY,d0,eb,ed,eg,ei,ek,em,eq,et,ew,ez,eB,eD,eF,eH,eJ,eL,eN,eP,eR,eT,eV,eX,eZ,e1,e3,e5,e7,e9,fb,fe,fg,fi,fm,fq,fu,fw,fy,fA,fC,fE,fG,fI,fK,fM,fO,fQ,fS,fU,fW,fY,f0,gb,ge,gg,gj,gl,gq,gt,gv,gx,gz,gB,gD,gF,gH,gJ,gL,aL,⟨aB.1,aQ.1,aQ.2.1,aB.2⟩,uV X G aK,ax,ay,aF,ao,ap,aA,aq,au,aP,⟨aJ.1,aR.1,aR.2.1,aJ.2⟩,uV X G aO,aH,aG,aw,ak,am,aI,aE,⟨af.1,aS.1,aS.2.1,af.2⟩,uV X G aD,ac,ag,ad,ae,ah,aN,⟨aC.1,aT.1,aT.2.1,aC.2⟩,uV X G aM,al,[_:uV X G g1],[_:uV X G g2],[_:uV X G g3],[_:uV X G g4],[_:uV X G g5],[_:uV X G g6],[_:uV X G g7],[_:uV X G g8],[_:uV X G g9],[_:uV X G dH],[_:uV X G dI],z1,z2,z3,z4,z5,z6,z7,z8,z9,gM,gN,gO,gP,gQ,gR,gS⟩]
variable {K:o0}{h:o8}{mg:Str->om o6}{f:o3}{x:Str}
def mk1 (X:K.In h)(G:h.Ns Vw mg){O:o3}{y:Str}(z:∃m,PySem.W.nsIn K Vw y=u_ (u_ (.ref m))/\PySem.W.nsIn K O x=u_ (u_ (.ref m)))(e:mg y=u_ (.ref f)):PySem.W.nsIn K O x=u_ (u_ (.ref f)):=by
 erw[z,m,h1,h2];have:=(uV X G h1).symm.trans e;injection this with this
 injection this with this
 rw[<-this];exact h2
nonrec def MKP:oj (Str×Str):= [("text","text_made"),("self","self_made"),("copy","copy_made"),("row","row_made"),("put","put_made"),("join","join_made"),("first","first_made"),("rest","rest_made"),("size","size_made"),("cut","cut_made"),("glue","glue_made")]
nonrec def Aa4 (e:GO):om Str:=match e.key with
 | .str x _=>u_ x
 |_=>U_
variable {a:o3}{es:Array GO}{n:Nat}{z:Str}
def none_of (hl:K.lookup a=u_ ⟨.type "dict",U_,.dict es n,#[]⟩)(hk:es.toList.map Aa4=FRM.map λx=>u_ x.1)(hz:xl z=U_):PySem.W.nsIn K a z=u_ none:=by
 have h1:∀e∈es.toList,∃x t,e.key= .str x t/\x≠z:=by
  intro e U;have hm:Aa4 e∈es.toList.map Aa4:=Ac.mpr [e:U:1];rw[hk] at hm;erw[Ac.mp hm,x,Z,ex];have O:=We hz x Z;unfold Aa4 at ex;split at ex
  ·rename_i y t hy
   cases ex;exact⟨_,_,hy,O⟩
  ·cases ex
 unfold PySem.W.nsIn;rw[hl]
 try dsimp only
 have f1:es.toList.find? (λe=>e.key.isStr z)=none:=by
  rw[Ul];intro e U;erw[h1 e U,x,t,Z,O];rw[Z];exact λq=>O (uw q)
 have f2:es.toList.any (·.refKey)=false:=by
  rw[T7];intro e U;erw[h1 e U,x,t,Z,O];unfold Rx;rw[Z];exact uc
 rw[f1,f2]
 rfl
def AcJ {w:og}{K:o0}{h:o8}{mg:Str->om o6}{a:Ad}(T:Tx K mg a)(X:K.In h)(G:h.Ns Vw mg){aB aA aF Z O U:o3}{eF eM:Array GO}{nF nM:Nat}
  (gB:#[K,"BOXES"]=u_ (u_ (.ref aB))) (gA:#[K,"ASKING"]=u_ (u_ (.ref aA))) (gF:#[K,"FORMS"]=u_ (u_ (.ref aF))) (gM:#[K,"MAKERS"]=u_ (u_ (.ref Z)))
  (lB:TZ K aB BX) (lA:TZ K aA ["ask","has","names"]) (lF:K.lookup aF=u_ ⟨.type "dict",U_,.dict eF nF,#[]⟩) (lM:K.lookup Z=u_ ⟨.type "dict",U_,.dict eM nM,#[]⟩)
  (kF:PySem.W.KeysLit w.params eF.toList) (kM:PySem.W.KeysLit w.params eM.toList) (zF:(aF==Vv)=V6) (zM:(Z==Vv)=V6)
  (fF:∀x∈FRM,TZn K aF x.1 (x.2.map Kd.t)) (fM:∀p∈MKP,∃m,PySem.W.nsIn K Vw p.2=u_ (u_ (.ref m))/\PySem.W.nsIn K Z p.1=u_ (u_ (.ref m))) (oM:∀z∈Abx,PySem.W.nsIn K Z z=u_ U_)
  (kk:eF.toList.map Aa4=FRM.map λx=>u_ x.1)
  (g1:#[K,"BadRule"]=u_ (u_ (.ref O))) (b1:PySem.W.excIn K O VE "ValueError.__new__"=v_)
  (g2:#[K,"BadName"]=u_ (u_ (.ref U))) (b2:PySem.W.excIn K U VE "ValueError.__new__"=v_):∃g,Fx K w mg g a:=by
 exists ⟨aB,aA,aF,Z,O,U⟩,⟨uV X G gB,uV X G gA,uV X G gF,uV X G gM,λH=>lB.sq (),λH=>lA.sq (),⟨zF,eF,nF,lF,kF⟩,λx hx=>?_,⟨zM,eM,nM,lM,kM⟩,mk1 X G (fM ("text","text_made") ()) T.lf.m,mk1 X G (fM ("self","self_made") ()) T.li.m,mk1 X G (fM ("copy","copy_made") ()) T.lr.m,mk1 X G (fM ("row","row_made") ()) T.lP.m,mk1 X G (fM ("put","put_made") ()) T.lR.m,mk1 X G (fM ("join","join_made") ()) T.lp.m,mk1 X G (fM ("first","first_made") ()) T.iY.m,mk1 X G (fM ("rest","rest_made") ()) T.ll.m,mk1 X G (fM ("size","size_made") ()) T.lh.m,mk1 X G (fM ("cut","cut_made") ()) T.lS.m,mk1 X G (fM ("glue","glue_made") ()) T.lq.m,oM,λz hz=>none_of lF kk hz,uV X G g1,b1,uV X G g2,b2⟩
 erw[fF x hx,q,h1,h2];exact⟨q,h1,λH=>by rw[zT];exact h2.sq (by rw[ud];exact uT (Bw x hx) ())⟩
end K24
open PySem PySem.W PyProof.Rows L2
set_option maxRecDepth 100000 in
set_option maxHeartbeats 0 in
theorem PySem.Challenge.cw_askwright_k24_whole_founded_holds : PySem.Challenge.rw_askwright_k24_whole_founded.Holds := by
 w_on;o_law;k_head;(case hw=>w_witness2)
 k_fill
 refine L2.Ir (l:=PySem.Challenge.rw_askwright_k24_whole_founded) (n:=63) (k:=20) (x:="script") (CX:=L2.CX0) (sp:=K24.Mf) rfl (by decide) rfl ⟨rfl,by decide,by decide⟩ (fun w h Y=>PySem.W.kIn_of Y) ?F ?S ?C
 case F=>
  intro w mg fa h KX G hmg
  have T:∃a,K24.Tx (L2.KOf KX) mg a:=by
   try dsimp only [L2.KOf]
   refine' K24.AbW KX G ..
   all_goals first|exact⟨by k_is,_,_,_,_,_,_,_,_,_,by k_is,by k_is,by k_is⟩|exact⟨by k_is,by k_is,_,_,_,_,_,_,_,_,_,by k_is,by k_is,by k_is⟩|(show _=_;k_is)|exact⟨by k_is,by k_is,by k_is,by k_is⟩|exact⟨by k_is,by k_is⟩|(intro x hx;simp only [uG,vi,uS] at hx;rcases hx with rfl|rfl|rfl|rfl|rfl|rfl|rfl|rfl|rfl|rfl|rfl|rfl|rfl|rfl|rfl|rfl<;>k_is)|skip
  erw[T,a,T]
  have C:∃g,K24.Fx (L2.KOf KX) w mg g a:=by
   try dsimp only [L2.KOf] at T⊢
   refine' K24.AcJ T KX G (kF:= ?kF) (kM:= ?kM) (fF:= ?fF) (fM:= ?fM) (oM:= ?oM) (kk:= ?kk) (b1:= ?b1) (b2:= ?b2) ..
   all_goals try (first|(show _=u_ (u_ _);k_is)|(show _=u_ (Obj.mk _ _ _ _);k_is)|exact⟨_,_,_,_,by k_is,rfl⟩)
   (case kF=>(repeat (first|exact trivial|refine[⟨_,_,rfl,rfl⟩:?_])));(case kM=>(repeat (first|exact trivial|refine[⟨_,_,rfl,rfl⟩:?_])))
   case fF=>
    intro x hx
    unfold FRM at hx
    simp only [uG,vi,uS] at hx
    rcases hx with rfl|rfl|rfl|rfl|rfl|rfl|rfl|rfl|rfl|rfl|rfl|rfl|rfl|rfl|rfl|rfl|rfl|rfl|rfl|rfl<;>exact⟨_,by k_is,_,_,_,_,by k_is,rfl⟩
   case fM=>
    intro x hx
    unfold K24.MKP at hx
    simp only [uG,vi,uS] at hx
    rcases hx with rfl|rfl|rfl|rfl|rfl|rfl|rfl|rfl|rfl|rfl|rfl<;>exact⟨_,by k_is,by k_is⟩
   case oM=>
    intro x hx
    unfold K24.Abx at hx
    simp only [uG,vi,uS] at hx
    rcases hx with rfl|rfl|rfl|rfl|rfl|rfl|rfl|rfl|rfl<;>k_is
   (case kk=>rfl);(case b1=>k_exc);(case b2=>k_exc)
   all_goals rfl
  erw[C,g,C]
  have e0:=hmg.symm.trans T.Br.m
  cases e0
  exact⟨_,T.Br.law (fun _ _ _ _ _ _ _=>rfl),(by erw[T.Br.F.ex,_,_,_,_,_,_,_,_,_,e,_];rw [e];rfl),fun base kb nb=>K24.AaH T C⟩
 case S=>exact fun w H a ns hl hO hS=>⟨a,ns,rfl,hS,hl,fun _=>rfl⟩
 case C=>exact fun _ _ _ _ z=>z
